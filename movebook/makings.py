"""Makings: tuples of a word, the names of the grounds, and what else the word asks for."""

# The sort of what each word makes, and the sorts of its grounds in their order;
# "curve" stands for a line or a circle.
WORDS = {
    "free": ("point", ()),
    "middle": ("point", ("point", "point")),
    "next": ("point", ("point", "point")),
    "turn": ("point", ("point", "point")),
    "share": ("point", ("point", "point")),
    "foot": ("point", ("point", "line")),
    "mirror": ("point", ("point", "line")),
    "meet": ("point", ("line", "line")),
    "cut": ("point", ("curve", "circle")),
    "line": ("line", ("point", "point")),
    "along": ("line", ("point", "line")),
    "upright": ("line", ("point", "line")),
    "circle": ("circle", ("point", "point")),
    "inline": ("claim", ("point", "point", "point")),
    "round": ("claim", ("point", "point", "point", "point")),
    "alike": ("claim", ("point", "point", "point", "point")),
    "beside": ("claim", ("line", "line")),
    "square": ("claim", ("line", "line")),
}

# What stands behind the grounds, where anything does.
MORE = {"free": ("fraction", "fraction"), "share": ("fraction",), "cut": ("choice",)}

# Tops and bottoms stay below these.
FREE_BOUND = 10 ** 9
SHARE_BOUND = 1000


def sort_of(making):
    """The sort of the thing: "point", "line", "circle" or "claim"."""
    return WORDS[making[0]][0]


def wanted(making):
    """The sorts that the grounds are to have, a tuple in their order."""
    return WORDS[making[0]][1]


def grounds(making):
    """The names of the grounds, a list in their order, each as often as it is named."""
    return list(making[1:1 + len(wanted(making))])


def fits(sort, due):
    """Whether a ground of that sort may stand where the sort due is asked for."""
    if due == "curve":
        return sort in ("line", "circle")
    return sort == due


def near(making):
    """Whether the making keeps the bounds of free points and of shares."""
    if making[0] == "free":
        return below(making[1], FREE_BOUND) and below(making[2], FREE_BOUND)
    if making[0] == "share":
        return below(making[3], SHARE_BOUND)
    return True


def below(one, bound):
    """Whether a fraction's top, without its sign, and its bottom are below the bound."""
    return abs(one[0]) < bound and one[1] < bound
