"""What the tests share: calls told by name, small files made by a fixed rule, and all their plans one by one."""

import itertools
import signal
import unittest

from notchplan.cards import answers

CLEAR, FILE, LOOK, TEXT, PUT, DROP, TOLD, LEAST, CURVE, COUNT, CHECK = range(11)
LABELS, ACCEPT, BOUND, PRICE, WITH_CODE, WITHOUT, RANGE, ASK, HOLES, MEAN, IDLE = range(11, 22)

LONGEST_TEXT = 2000
MOST_NUMBERS = 16000
MOST_CALLS = 100


def bytes_of(text):
    return list(text.encode("latin-1"))


def flat(calls):
    """The one list of whole numbers for calls like (FILE, "holes 5"), (DROP, 0), (CHECK, [0, 1])."""
    numbers = []
    for call in calls:
        for part in call:
            if isinstance(part, str):
                part = bytes_of(part)
            if isinstance(part, list):
                numbers.append(len(part))
                numbers.extend(part)
            else:
                numbers.append(part)
    return numbers


def split(told):
    """The answers, a list each, from what was given back."""
    parts = []
    at = 0
    while at < len(told):
        parts.append(told[at + 1:at + 1 + told[at]])
        at += 1 + told[at]
    return parts


def ask(*calls):
    """What is answered to each of the calls."""
    return split(answers(flat(calls)))


def last(*calls):
    """What is answered to the last of the calls."""
    return ask(*calls)[-1]


def text_bytes(text):
    """What the call text answers where the file has that text."""
    return [0] + bytes_of(text)


class Numbers:
    """Numbers by a fixed rule, the same each time."""

    def __init__(self, start):
        self.state = start

    def below(self, limit):
        self.state = (self.state * 1103515245 + 12345) % 2147483648
        return (self.state >> 8) % limit


class Small:
    """A small file: its holes, and for each field how often it's asked and its codes as (holes, cost)."""

    def __init__(self, holes, fields):
        self.holes = holes
        self.fields = fields

    def text(self):
        lines = [f"holes {self.holes}"]
        for number, (asked, codes) in enumerate(self.fields):
            lines.append(f"field {'abcdefghij'[number]} asked {asked}")
            for place, (holes, cost) in enumerate(codes):
                lines.append(f"code {'abcdefgh'[place]} holes {holes} cost {cost}")
        return "\n".join(lines)

    def plans(self):
        """All plans, rising, those that don't fit too."""
        return [list(plan) for plan in itertools.product(*[range(len(codes)) for asked, codes in self.fields])]

    def fitting(self):
        return [plan for plan in self.plans() if self.taken(plan) <= self.holes]

    def taken(self, plan):
        return sum(codes[number][0] for number, (asked, codes) in zip(plan, self.fields))

    def cost(self, plan):
        return sum(asked * codes[number][1] for number, (asked, codes) in zip(plan, self.fields))

    def least_cost(self, holes):
        costs = [self.cost(plan) for plan in self.plans() if self.taken(plan) <= holes]
        return min(costs) if costs else None

    def least_plans(self):
        return self.least_of(self.fitting())

    def least_of(self, plans):
        """Those of the plans that cost the least."""
        least = min([self.cost(plan) for plan in plans], default=None)
        return [plan for plan in plans if self.cost(plan) == least]

    def told(self, plans):
        """A plan told: the first of those of the plans that cost the least."""
        least = self.least_of(plans)
        return [1, self.cost(least[0]), len(self.fields)] + least[0] if least else [0]

    def without(self, i):
        return Small(self.holes, self.fields[:i] + self.fields[i + 1:])

    def with_asked(self, i, asked):
        return Small(self.holes, self.fields[:i] + [(asked, self.fields[i][1])] + self.fields[i + 1:])

    def table(self):
        """The table's numbers, row by row, None for none."""
        numbers = []
        for row in range(len(self.fields) + 1):
            rest = Small(self.holes, self.fields[row:])
            numbers.extend([rest.least_cost(holes) for holes in range(self.holes + 1)])
        return numbers

    def bound(self, price):
        """The bound by the price: the least over all plans, those that don't fit too; None if there is no plan."""
        return min([self.cost(plan) + price * (self.taken(plan) - self.holes) for plan in self.plans()], default=None)

    def calls(self):
        """The calls that make the file: as many lines as one text has room for, then the others one by one."""
        lines = self.text().split("\n")
        count = len(lines)
        while len("\n".join(lines[:count])) > LONGEST_TEXT:
            count -= 1
        return [(FILE, "\n".join(lines[:count]))] + [(PUT, line) for line in lines[count:]]


def small_files(count, asked=4, cost=5):
    """Small files, with few different numbers, so that many plans cost the same (less than asked, less than cost)."""
    numbers = Numbers(163)
    files = []
    for number in range(count):
        fields = []
        for place in range(numbers.below(5)):
            # Few fields are without codes, since no plan is left then.
            count = numbers.below(10) and 1 + numbers.below(4)
            codes = [(numbers.below(4), numbers.below(cost)) for code in range(count)]
            fields.append((numbers.below(asked), codes))
        files.append(Small(numbers.below(9), fields))
    return files


class Prompt(unittest.TestCase):
    """Tests that are to end within so many seconds of this process's own time: an alarm stops what would take more."""

    SECONDS = 2

    def setUp(self):
        self.before = signal.signal(signal.SIGVTALRM, self.too_long)
        signal.setitimer(signal.ITIMER_VIRTUAL, self.SECONDS)

    def tearDown(self):
        signal.setitimer(signal.ITIMER_VIRTUAL, 0)
        signal.signal(signal.SIGVTALRM, self.before)

    def too_long(self, number, frame):
        raise TimeoutError("not answered promptly")
