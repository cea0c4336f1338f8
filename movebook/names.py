"""Names of things, groups, watchers and marks."""

LETTERS = "abcdefghijklmnopqrstuvwxyz"
FIGURES = "0123456789"
LONGEST = 12


def good(name):
    """Whether a text is a good name."""
    if len(name) < 1 or len(name) > LONGEST:
        return False
    if name[0] not in LETTERS:
        return False
    for sign in name:
        if sign not in LETTERS and sign not in FIGURES:
            return False
    return True
