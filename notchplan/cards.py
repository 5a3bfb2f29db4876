"""The calls on a file, read from one list of whole numbers, and what is answered."""

from notchplan.model import MOST_FIELDS, CardFile
from notchplan.planning import curve, is_plan, least_count, least_plan, plan_cost, plan_holes
from notchplan.reading import read_file, read_line
from notchplan.refusals import Fault, NotAPlan, NotBytes, NotInRange, NotThere, Refusal
from notchplan.writing import text_of


class Handed:
    """The numbers that are handed in, taken one behind another."""

    def __init__(self, numbers):
        self.numbers = numbers
        self.taken = 0

    def ended(self):
        return self.taken == len(self.numbers)

    def take(self):
        number = self.numbers[self.taken]
        self.taken += 1
        return number

    def take_list(self):
        length = self.take()
        start = self.taken
        self.taken += length
        return self.numbers[start:self.taken]


def refuse_wrong_bytes(text):
    if any([byte < 0 or byte > 255 for byte in text]):
        raise NotBytes()


def refuse_wrong_field(file, i):
    if i < 0 or i >= MOST_FIELDS:
        raise NotInRange()
    if i >= len(file.fields):
        raise NotThere()


def plan_told(file, plan):
    """A plan told; None is no plan."""
    if plan is None:
        return [0]
    return [1, plan_cost(file, plan), len(plan)] + plan


def answer_clear(file, given):
    file.become(CardFile(0, []))
    return [0]


def answer_file(file, given):
    refuse_wrong_bytes(given[0])
    file.become(read_file(given[0]))
    return [file.holes, len(file.fields)]


def answer_look(file, given):
    refuse_wrong_bytes(given[0])
    try:
        read_file(given[0])
    except Fault as fault:
        return [1, fault.place]
    return [0]


def answer_text(file, given):
    return [0] + text_of(file)


def answer_put(file, given):
    refuse_wrong_bytes(given[0])
    file.fields = read_line(given[0], file.fields)
    return [len(file.fields), len(file.fields[-1].codes)]


def answer_drop(file, given):
    i = given[0]
    refuse_wrong_field(file, i)
    file.fields = file.fields[:i] + file.fields[i + 1:]
    return [len(file.fields)]


def answer_told(file, given):
    told = [file.holes, len(file.fields)]
    for field in file.fields:
        told.extend([field.asked, len(field.codes)])
    return told


def answer_least(file, given):
    return plan_told(file, least_plan(file))


def answer_curve(file, given):
    costs = curve(file)
    return [len(costs)] + [-1 if cost is None else cost for cost in costs]


def answer_count(file, given):
    return [least_count(file)]


def answer_check(file, given):
    row = given[0]
    if not is_plan(file, row):
        raise NotAPlan()
    holes = plan_holes(file, row)
    return [1 if holes <= file.holes else 0, holes, plan_cost(file, row)]


CALLS = {
    0: answer_clear,
    1: answer_file,
    2: answer_look,
    3: answer_text,
    4: answer_put,
    5: answer_drop,
    6: answer_told,
    7: answer_least,
    8: answer_curve,
    9: answer_count,
    10: answer_check,
}

# How many whole numbers, and how many lists, a call has; one that isn't named here has none.
NUMBERS = {5: 1}
LISTS = {1: 1, 2: 1, 4: 1, 10: 1}


def take_given(handed, call):
    """The call's whole numbers, then its lists, in the order told."""
    numbers = [handed.take() for place in range(NUMBERS.get(call, 0))]
    return numbers + [handed.take_list() for place in range(LISTS.get(call, 0))]


def answer_to(file, call, given):
    try:
        return CALLS[call](file, given)
    except Refusal as refusal:
        return [refusal.number]


def answers(calls):
    """For each call, in order, how many numbers are answered, then these."""
    file = CardFile(0, [])
    handed = Handed(calls)
    told = []
    while not handed.ended():
        call = handed.take()
        answer = answer_to(file, call, take_given(handed, call))
        told.append(len(answer))
        told.extend(answer)
    return told
