"""What the tests share: calls told by name, small files made by a fixed rule, and all their plans one by one."""

import itertools

from notchplan.cards import answers

CLEAR, FILE, LOOK, TEXT, PUT, DROP, TOLD, LEAST, CURVE, COUNT, CHECK = range(11)


def bytes_of(text):
    return list(text.encode("latin-1"))


def flat(calls):
    """The one list of whole numbers for calls like (FILE, "holes 5"), (DROP, 0), (CHECK, [0, 1])."""
    numbers = []
    for call in calls:
        for part in call:
            if isinstance(part, str):
                part = bytes_of(part)
            if isinstance(part, list):
                numbers.append(len(part))
                numbers.extend(part)
            else:
                numbers.append(part)
    return numbers


def split(told):
    """The answers, a list each, from what was given back."""
    parts = []
    at = 0
    while at < len(told):
        parts.append(told[at + 1:at + 1 + told[at]])
        at += 1 + told[at]
    return parts


def ask(*calls):
    """What is answered to each of the calls."""
    return split(answers(flat(calls)))


def last(*calls):
    """What is answered to the last of the calls."""
    return ask(*calls)[-1]


def text_bytes(text):
    """What the call text answers where the file has that text."""
    return [0] + bytes_of(text)


class Numbers:
    """Numbers by a fixed rule, the same each time."""

    def __init__(self, start):
        self.state = start

    def below(self, limit):
        self.state = (self.state * 1103515245 + 12345) % 2147483648
        return (self.state >> 8) % limit


class Small:
    """A small file: its holes, and for each field how often it's asked and its codes as (holes, cost)."""

    def __init__(self, holes, fields):
        self.holes = holes
        self.fields = fields

    def text(self):
        lines = [f"holes {self.holes}"]
        for number, (asked, codes) in enumerate(self.fields):
            lines.append(f"field {'abcdefghij'[number]} asked {asked}")
            for place, (holes, cost) in enumerate(codes):
                lines.append(f"code {'abcdefgh'[place]} holes {holes} cost {cost}")
        return "\n".join(lines)

    def plans(self):
        """All plans, rising, those that don't fit too."""
        return [list(plan) for plan in itertools.product(*[range(len(codes)) for asked, codes in self.fields])]

    def taken(self, plan):
        return sum(codes[number][0] for number, (asked, codes) in zip(plan, self.fields))

    def cost(self, plan):
        return sum(asked * codes[number][1] for number, (asked, codes) in zip(plan, self.fields))

    def least_cost(self, holes):
        costs = [self.cost(plan) for plan in self.plans() if self.taken(plan) <= holes]
        return min(costs) if costs else None

    def least_plans(self):
        fitting = [plan for plan in self.plans() if self.taken(plan) <= self.holes]
        return [plan for plan in fitting if self.cost(plan) == self.least_cost(self.holes)]


def small_files(count):
    """Small files, with few different numbers, so that many plans cost the same."""
    numbers = Numbers(163)
    files = []
    for number in range(count):
        fields = []
        for place in range(numbers.below(5)):
            # Few fields are without codes, since no plan is left then.
            codes = [(numbers.below(4), numbers.below(5)) for code in range(numbers.below(10) and 1 + numbers.below(4))]
            fields.append((numbers.below(4), codes))
        files.append(Small(numbers.below(9), fields))
    return files
