"""What a file is: its holes, its fields and their codes."""

MOST_HOLES = 60
MOST_FIELDS = 10
MOST_CODES = 8
MOST_ASKED = 1000
MOST_COST = 1000000
MOST_LETTERS = 12
MOST_PRICE = 1000000000
MOST_LABEL = 1000000000000


class Code:
    """A field's code: its name, the holes it takes, its cost for each asking. It is never changed."""

    def __init__(self, name, holes, cost):
        self.name = name
        self.holes = holes
        self.cost = cost


class Field:
    """A field: its name, how often it is asked, its codes. It is never changed: another takes its place."""

    def __init__(self, name, asked, codes):
        self.name = name
        self.asked = asked
        self.codes = codes

    def cost_in_all(self, code):
        return self.asked * code.cost


class CardFile:
    """A file: how many holes a card's edge has, and the fields in the order told."""

    def __init__(self, holes, fields):
        self.holes = holes
        self.fields = fields

    def become(self, other):
        self.holes = other.holes
        self.fields = other.fields


def with_field(fields, field):
    """The fields with one more behind them."""
    return fields + [field]


def with_code(fields, code):
    """The fields, the last of them with one more code behind its others."""
    last = fields[-1]
    return fields[:-1] + [Field(last.name, last.asked, last.codes + [code])]


def without_field(fields, i):
    """The fields but field i."""
    return fields[:i] + fields[i + 1:]


def with_asked(fields, i, asked):
    """The fields, field i of them asked so often."""
    return fields[:i] + [Field(fields[i].name, asked, fields[i].codes)] + fields[i + 1:]


def with_only_code(fields, i, c):
    """The fields, field i of them with its code c alone."""
    return fields[:i] + [Field(fields[i].name, fields[i].asked, [fields[i].codes[c]])] + fields[i + 1:]
