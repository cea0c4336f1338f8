"""What two books share."""


def shared(one, other):
    """The names that stand in both rows with equal makings and tellings, in the first one's order."""
    theirs = other.sheet()
    return [thing[0] for thing in one.sheet() if thing in theirs]
