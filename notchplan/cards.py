"""The calls on a file, read from one list of whole numbers, and what is answered."""

from notchplan.bounds import best_price, bound, first_wrong_label, is_labels, label_rows
from notchplan.model import (
    MOST_ASKED, MOST_CODES, MOST_FIELDS, MOST_HOLES, MOST_PRICE, CardFile, with_asked, without_field)
from notchplan.planning import (
    curve, is_plan, least_cost, least_count, least_plan, least_plan_with, plan_cost, plan_holes, table)
from notchplan.reading import read_file, read_line
from notchplan.refusals import Fault, NeverAsked, NotAPlan, NotBytes, NotInRange, NotLabels, NotThere, Refusal
from notchplan.standing import askings, idle_codes
from notchplan.writing import text_of


class Handed:
    """The numbers that are handed in, taken one behind another."""

    def __init__(self, numbers):
        self.numbers = numbers
        self.taken = 0

    def ended(self):
        return self.taken == len(self.numbers)

    def take(self):
        number = self.numbers[self.taken]
        self.taken += 1
        return number

    def take_list(self):
        length = self.take()
        start = self.taken
        self.taken += length
        return self.numbers[start:self.taken]


def refuse_wrong_bytes(text):
    if any([byte < 0 or byte > 255 for byte in text]):
        raise NotBytes()


def refuse_out_of_range(number, greatest):
    if number < 0 or number > greatest:
        raise NotInRange()


def refuse_wrong_field(file, i):
    refuse_out_of_range(i, MOST_FIELDS - 1)
    if i >= len(file.fields):
        raise NotThere()


def refuse_wrong_code(file, i, c):
    """The field is looked at first, so that what is wrong with it comes ahead of what is wrong with the code."""
    refuse_wrong_field(file, i)
    refuse_out_of_range(c, MOST_CODES - 1)
    if c >= len(file.fields[i].codes):
        raise NotThere()


def plan_told(file, plan):
    """A plan told; None is no plan."""
    if plan is None:
        return [0]
    return [1, plan_cost(file, plan), len(plan)] + plan


def costs_told(costs):
    """The costs as they are told: -1 where there is none."""
    return [-1 if cost is None else cost for cost in costs]


def greatest_divisor(one, other):
    """The greatest number that divides both, which are not both 0."""
    while other > 0:
        rest = one % other
        one = other
        other = rest
    return one


def answer_clear(file, given):
    file.become(CardFile(0, []))
    return [0]


def answer_file(file, given):
    refuse_wrong_bytes(given[0])
    file.become(read_file(given[0]))
    return [file.holes, len(file.fields)]


def answer_look(file, given):
    refuse_wrong_bytes(given[0])
    try:
        read_file(given[0])
    except Fault as fault:
        return [1, fault.place]
    return [0]


def answer_text(file, given):
    return [0] + text_of(file)


def answer_put(file, given):
    refuse_wrong_bytes(given[0])
    file.fields = read_line(given[0], file.fields)
    return [len(file.fields), len(file.fields[-1].codes)]


def answer_drop(file, given):
    i = given[0]
    refuse_wrong_field(file, i)
    file.fields = without_field(file.fields, i)
    return [len(file.fields)]


def answer_told(file, given):
    told = [file.holes, len(file.fields)]
    for field in file.fields:
        told.extend([field.asked, len(field.codes)])
    return told


def answer_least(file, given):
    return plan_told(file, least_plan(file))


def answer_curve(file, given):
    costs = curve(file)
    return [len(costs)] + costs_told(costs)


def answer_count(file, given):
    return [least_count(file)]


def answer_check(file, given):
    row = given[0]
    if not is_plan(file, row):
        raise NotAPlan()
    holes = plan_holes(file, row)
    return [1 if holes <= file.holes else 0, holes, plan_cost(file, row)]


def answer_labels(file, given):
    labels = []
    for row in table(file):
        labels.extend(costs_told(row))
    return [len(labels)] + labels


def answer_accept(file, given):
    if not is_labels(file, given[0]):
        raise NotLabels()
    rows = label_rows(file, given[0])
    wrong = first_wrong_label(file, rows)
    return [1, rows[0][file.holes]] if wrong is None else [0] + wrong


def answer_bound(file, given):
    refuse_out_of_range(given[0], MOST_PRICE)
    least = bound(file, given[0])
    return [0] if least is None else [1, least]


def answer_price(file, given):
    cost = least_cost(file)
    if cost is None:
        return [0]
    price = best_price(file)
    least = bound(file, price)
    return [1, price, least, cost - least]


def answer_with_code(file, given):
    i = given[0]
    c = given[1]
    refuse_wrong_code(file, i, c)
    return plan_told(file, least_plan_with(file, i, c))


def answer_without(file, given):
    i = given[0]
    refuse_wrong_field(file, i)
    other = CardFile(file.holes, without_field(file.fields, i))
    return plan_told(other, least_plan(other))


def answer_range(file, given):
    i = given[0]
    c = given[1]
    refuse_wrong_code(file, i, c)
    ends = askings(file, i, c)
    return [0] if ends is None else [1] + ends


def answer_ask(file, given):
    i = given[0]
    asked = given[1]
    refuse_wrong_field(file, i)
    refuse_out_of_range(asked, MOST_ASKED)
    before = file.fields[i].asked
    file.fields = with_asked(file.fields, i, asked)
    return [before]


def answer_holes(file, given):
    refuse_out_of_range(given[0], MOST_HOLES)
    before = file.holes
    file.holes = given[0]
    return [before]


def answer_mean(file, given):
    cost = least_cost(file)
    if cost is None:
        return [0]
    asked = sum([field.asked for field in file.fields])
    if asked == 0:
        raise NeverAsked()
    divisor = greatest_divisor(cost, asked)
    return [1, cost // divisor, asked // divisor]


def answer_idle(file, given):
    i = given[0]
    refuse_wrong_field(file, i)
    idle = idle_codes(file.fields[i])
    return [len(idle)] + idle


CALLS = {
    0: answer_clear,
    1: answer_file,
    2: answer_look,
    3: answer_text,
    4: answer_put,
    5: answer_drop,
    6: answer_told,
    7: answer_least,
    8: answer_curve,
    9: answer_count,
    10: answer_check,
    11: answer_labels,
    12: answer_accept,
    13: answer_bound,
    14: answer_price,
    15: answer_with_code,
    16: answer_without,
    17: answer_range,
    18: answer_ask,
    19: answer_holes,
    20: answer_mean,
    21: answer_idle,
}

# How many whole numbers, and how many lists, a call has; one that isn't named here has none.
NUMBERS = {5: 1, 13: 1, 15: 2, 16: 1, 17: 2, 18: 2, 19: 1, 21: 1}
LISTS = {1: 1, 2: 1, 4: 1, 10: 1, 12: 1}


def take_given(handed, call):
    """The call's whole numbers, then its lists, in the order told."""
    numbers = [handed.take() for place in range(NUMBERS.get(call, 0))]
    return numbers + [handed.take_list() for place in range(LISTS.get(call, 0))]


def answer_to(file, call, given):
    try:
        return CALLS[call](file, given)
    except Refusal as refusal:
        return [refusal.number]


def answers(calls):
    """For each call, in order, how many numbers are answered, then these."""
    file = CardFile(0, [])
    handed = Handed(calls)
    told = []
    while not handed.ended():
        call = handed.take()
        answer = answer_to(file, call, take_given(handed, call))
        told.append(len(answer))
        told.extend(answer)
    return told
