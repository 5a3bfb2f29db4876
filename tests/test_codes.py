"""with_code, without, range and idle: the least plan with a code told or a field left out, and which codes stand."""

import unittest

from helper import (
    ASK, COUNT, DROP, FILE, HOLES, IDLE, LEAST, RANGE, TEXT, WITH_CODE, WITHOUT, Numbers, Small, ask, last, small_files,
    text_bytes)

# The least plans are 0 1 and 1 0, which cost 10.
TWO = Small(3, [(2, [(1, 5), (2, 3)]), (1, [(1, 4), (2, 0), (0, 9)])])


def tight_files(count):
    """Small files in which mostly a code of more holes costs less, and not all fields can have their cheapest code."""
    numbers = Numbers(17)
    files = []
    for number in range(count):
        fields = []
        for place in range(2 + numbers.below(2)):
            codes = [(holes, 3 * (3 - holes) + numbers.below(5)) for holes in range(4) if numbers.below(5)]
            fields.append((numbers.below(3) * numbers.below(500), codes))
        files.append(Small(1 + numbers.below(6), fields))
    return files


def codes_of(small):
    """Each field's number with each of its codes' numbers."""
    return [(i, c) for i, (asked, codes) in enumerate(small.fields) for c in range(len(codes))]


def cheapest_beside(small, i):
    """For each code of field i the least that the others cost in a plan that fits; only of the codes that can fit."""
    free = small.with_asked(i, 0)
    cheapest = {}
    for plan in free.fitting():
        cheapest[plan[i]] = min(cheapest.get(plan[i], free.cost(plan)), free.cost(plan))
    return cheapest


def standing(small, i, c):
    """The numbers of askings of field i with which its code c stands, by a walk over all of them."""
    cheapest = cheapest_beside(small, i)
    codes = small.fields[i][1]
    numbers = []
    if c in cheapest:
        for asked in range(1001):
            costs = {code: asked * codes[code][1] + rest for code, rest in cheapest.items()}
            if costs[c] == min(costs.values()):
                numbers.append(asked)
    return numbers


def ends(numbers):
    return [1, numbers[0], numbers[-1]] if numbers else [0]


class WithCode(unittest.TestCase):
    def test_by_hand(self):
        for i, c, answer in [(0, 0, [1, 10, 2, 0, 1]), (0, 1, [1, 10, 2, 1, 0]), (1, 0, [1, 10, 2, 1, 0]),
                             (1, 1, [1, 10, 2, 0, 1]), (1, 2, [1, 15, 2, 1, 2])]:
            self.assertEqual(last((FILE, TWO.text()), (WITH_CODE, i, c)), answer)

    def test_a_code_of_more_holes_than_the_file(self):
        wide = Small(2, [(1, [(3, 0), (1, 7)]), (1, [(0, 1)])]).text()
        self.assertEqual(ask((FILE, wide), (WITH_CODE, 0, 0), (WITH_CODE, 0, 1), (WITH_CODE, 1, 0))[1:],
                         [[0], [1, 8, 2, 1, 0], [1, 8, 2, 1, 0]])

    def test_no_plan_fits_with_it(self):
        wide = Small(3, [(1, [(3, 0), (1, 7)]), (1, [(1, 1)])]).text()
        self.assertEqual(ask((FILE, wide), (WITH_CODE, 0, 0), (WITH_CODE, 0, 1), (LEAST,))[1:],
                         [[0], [1, 8, 2, 1, 0], [1, 8, 2, 1, 0]])
        self.assertEqual(last((FILE, Small(3, [(1, [(0, 0)]), (1, [])]).text()), (WITH_CODE, 0, 0)), [0])

    def test_the_first_of_the_same_cost(self):
        same = Small(2, [(1, [(1, 1), (0, 2)]), (1, [(0, 3), (0, 3)]), (1, [(1, 1), (0, 2)])])
        self.assertEqual(ask((FILE, same.text()), (WITH_CODE, 1, 0), (WITH_CODE, 1, 1))[1:],
                         [[1, 5, 3, 0, 0, 0], [1, 5, 3, 0, 1, 0]])
        same.holes = 1
        self.assertEqual(ask((FILE, same.text()), (WITH_CODE, 1, 1), (WITH_CODE, 2, 0), (WITH_CODE, 2, 1))[1:],
                         [[1, 6, 3, 0, 1, 1], [1, 6, 3, 1, 0, 0], [1, 6, 3, 0, 0, 1]])

    def test_against_all_plans(self):
        for small in small_files(200):
            codes = codes_of(small)
            told = ask((FILE, small.text()), (LEAST,), *[(WITH_CODE, i, c) for i, c in codes], (TEXT,), (LEAST,))
            self.assertEqual(told[-2], text_bytes(small.text()))
            self.assertEqual(told[-1], told[1])
            for (i, c), answer in zip(codes, told[2:]):
                with self.subTest(text=small.text(), i=i, c=c):
                    fitting = [plan for plan in small.fitting() if plan[i] == c]
                    self.assertEqual(answer, small.told(fitting))
                    # The code that the least plan has changes nothing; promise 1 holds for the others, too.
                    if told[1][0] == 1 and told[1][3 + i] == c:
                        self.assertEqual(answer, told[1])
                    self.assertTrue(all(answer[1] <= small.cost(plan) for plan in fitting))


class Without(unittest.TestCase):
    def test_the_first_a_middle_one_and_the_last(self):
        three = Small(2, [(1, [(1, 4), (2, 1)]), (2, [(1, 3), (0, 5)]), (3, [(2, 1), (1, 2)])])
        told = ask((FILE, three.text()), (LEAST,), (WITHOUT, 0), (WITHOUT, 1), (WITHOUT, 2), (LEAST,), (TEXT,))
        self.assertEqual(told[1:], [[1, 20, 3, 0, 1, 1], [1, 12, 2, 0, 1], [1, 10, 2, 0, 1], [1, 10, 2, 0, 0],
                                    [1, 20, 3, 0, 1, 1], text_bytes(three.text())])

    def test_the_only_field(self):
        only = Small(2, [(1, [(1, 4)])]).text()
        self.assertEqual(ask((FILE, only), (WITHOUT, 0), (TEXT,))[1:], [[1, 0, 0], text_bytes(only)])
        self.assertEqual(last((FILE, "holes 0\nfield a asked 5"), (WITHOUT, 0)), [1, 0, 0])

    def test_a_plan_fits_but_by_leaving_the_field_out(self):
        wide = Small(2, [(1, [(1, 4)]), (2, [(2, 0)]), (3, [(1, 2)])]).text()
        self.assertEqual(ask((FILE, wide), (LEAST,), (WITHOUT, 0), (WITHOUT, 1), (WITHOUT, 2), (LEAST,))[1:],
                         [[0], [0], [1, 10, 2, 0, 0], [0], [0]])
        none = Small(2, [(1, [(1, 4)]), (2, [])]).text()
        self.assertEqual(ask((FILE, none), (LEAST,), (WITHOUT, 0), (WITHOUT, 1))[1:], [[0], [0], [1, 4, 1, 0]])

    def test_against_all_plans_and_drop(self):
        for small in small_files(200):
            for i in range(len(small.fields)):
                with self.subTest(text=small.text(), i=i):
                    told = ask((FILE, small.text()), (WITHOUT, i), (TEXT,), (COUNT,), (DROP, i), (LEAST,))
                    self.assertEqual(told[1], small.without(i).told(small.without(i).fitting()))
                    self.assertEqual(told[5], told[1])
                    self.assertEqual(told[2:4], [text_bytes(small.text()), [len(small.least_plans())]])


class Range(unittest.TestCase):
    def ranges(self, small, i):
        codes = range(len(small.fields[i][1]))
        return ask((FILE, small.text()), *[(RANGE, i, c) for c in codes])[1:]

    def test_by_hand(self):
        # Beside the codes of field 0 the other costs 0 and 4; beside those of field 1 the other 6, 10 and 6.
        self.assertEqual(self.ranges(TWO, 0), [[1, 0, 2], [1, 2, 1000]])
        self.assertEqual(self.ranges(TWO, 1), [[1, 0, 1], [1, 1, 1000], [1, 0, 0]])

    def test_a_code_that_stands_with_none(self):
        # As dear as the other, with less holes left; dearer, and no cheaper with a thousand askings.
        other = (1, [(1, 0), (0, 5000)])
        self.assertEqual(self.ranges(Small(1, [(7, [(0, 3), (1, 3)]), other]), 0), [[1, 0, 1000], [0]])
        self.assertEqual(self.ranges(Small(1, [(7, [(0, 3), (1, 4)]), other]), 0), [[1, 0, 1000], [0]])
        self.assertEqual(self.ranges(Small(1, [(7, [(0, 5), (1, 1)]), other]), 0), [[1, 0, 1000], [0]])
        # Just by 1 dearer, however often it's asked.
        self.assertEqual(self.ranges(Small(1, [(7, [(0, 3), (1, 3)]), (1, [(1, 0), (0, 1)])]), 0),
                         [[1, 0, 1000], [0]])
        self.assertEqual(self.ranges(Small(1, [(7, [(0, 7), (1, 1)]), other]), 0), [[1, 0, 833], [1, 834, 1000]])
        # Between the two others there's no whole number with which the middle one stands.
        self.assertEqual(self.ranges(Small(2, [(7, [(0, 6), (1, 3), (2, 0)]), (1, [(2, 0), (1, 8), (0, 14)])]), 0),
                         [[1, 0, 2], [0], [1, 3, 1000]])

    def test_just_with_a_thousand_or_just_not(self):
        for saved, answer in [(999, [1, 999, 1000]), (1000, [1, 1000, 1000]), (1001, [0])]:
            self.assertEqual(self.ranges(Small(1, [(7, [(0, 1), (1, 0)]), (1, [(1, 0), (0, saved)])]), 0)[1], answer)

    def test_a_code_that_stands_with_0_alone(self):
        self.assertEqual(self.ranges(Small(5, [(7, [(0, 1), (0, 2)])]), 0), [[1, 0, 1000], [1, 0, 0]])
        self.assertEqual(self.ranges(Small(1, [(7, [(0, 3), (1, 1)]), (1, [(1, 0), (0, 1)])]), 0),
                         [[1, 0, 0], [1, 1, 1000]])

    def test_from_0_to_a_thousand(self):
        self.assertEqual(self.ranges(Small(0, [(7, [(0, 1000000)])]), 0), [[1, 0, 1000]])
        self.assertEqual(self.ranges(Small(60, [(7, [(60, 5), (0, 5), (3, 6)])]), 0),
                         [[1, 0, 1000], [1, 0, 1000], [1, 0, 0]])

    def test_two_like_codes(self):
        self.assertEqual(self.ranges(Small(3, [(7, [(1, 2), (1, 2)]), (1, [(2, 1)])]), 0), [[1, 0, 1000]] * 2)
        self.assertEqual(self.ranges(Small(1, [(7, [(1, 1), (0, 3), (1, 1), (0, 3)]), (1, [(1, 0), (0, 6)])]), 0),
                         [[1, 3, 1000], [1, 0, 3]] * 2)

    def test_a_code_of_more_holes_than_the_file(self):
        self.assertEqual(self.ranges(Small(2, [(7, [(3, 0), (1, 9)])]), 0), [[0], [1, 0, 1000]])
        self.assertEqual(self.ranges(Small(2, [(7, [(3, 0), (60, 0)])]), 0), [[0], [0]])

    def test_the_others_fit_with_one_code_and_not_with_another(self):
        self.assertEqual(self.ranges(Small(3, [(7, [(2, 0), (1, 9)]), (1, [(2, 1)])]), 0), [[0], [1, 0, 1000]])
        self.assertEqual(self.ranges(Small(3, [(7, [(2, 0), (1, 9), (0, 8)]), (1, [(2, 1), (3, 0)])]), 0),
                         [[0], [0], [1, 0, 1000]])
        self.assertEqual(self.ranges(Small(3, [(7, [(2, 0), (1, 9), (0, 10)]), (1, [(2, 5), (3, 0)])]), 0),
                         [[0], [1, 5, 1000], [1, 0, 5]])

    def test_no_plan_fits_at_all(self):
        self.assertEqual(self.ranges(Small(3, [(7, [(2, 0), (1, 9)]), (1, [])]), 0), [[0], [0]])
        self.assertEqual(self.ranges(Small(3, [(7, [(2, 0), (1, 9)]), (1, [(3, 4)])]), 0), [[0], [0]])

    def test_the_present_number_of_askings_makes_no_difference(self):
        for asked in (0, 1, 2, 3, 1000):
            told = ask((FILE, TWO.text()), (ASK, 0, asked), (RANGE, 0, 0), (RANGE, 0, 1), (TEXT,))
            self.assertEqual(told[2:], [[1, 0, 2], [1, 2, 1000], text_bytes(TWO.with_asked(0, asked).text())])

    def test_the_others_number_of_askings_does(self):
        self.assertEqual(ask((FILE, TWO.text()), (ASK, 1, 10), (RANGE, 0, 0), (RANGE, 0, 1))[2:],
                         [[1, 0, 20], [1, 20, 1000]])
        self.assertEqual(ask((FILE, TWO.text()), (HOLES, 4), (RANGE, 0, 0), (RANGE, 0, 1))[2:],
                         [[1, 0, 0], [1, 0, 1000]])

    def test_against_a_walk_over_all_numbers_of_askings(self):
        kinds = set()
        for small in small_files(40) + tight_files(80):
            for i, c in codes_of(small):
                with self.subTest(text=small.text(), i=i, c=c):
                    numbers = standing(small, i, c)
                    # Promise 4: it stands with all between.
                    self.assertEqual(len(numbers), numbers[-1] - numbers[0] + 1 if numbers else 0)
                    told = ask((FILE, small.text()), (RANGE, i, c), (TEXT,))
                    self.assertEqual(told[1:], [ends(numbers), text_bytes(small.text())])
                    kinds.add((0 in numbers, 1000 in numbers, len(numbers) > 1))
        # With 0, with 1000 or between alone, each of these for some numbers; and with none.
        self.assertTrue({(True, True, True), (True, False, True), (False, True, True), (False, False, True),
                         (True, False, False), (False, False, False)} <= kinds)

    def test_against_ask_least_and_with_code(self):
        for small in [TWO] + [small for small in tight_files(60) if len(small.fields[-1][1]) == 4][:4]:
            i = len(small.fields) - 1
            count = len(small.fields[i][1])
            stands = {c: [] for c in range(count)}
            for start in range(0, 1001, 10):
                calls = []
                asked = list(range(start, min(start + 10, 1001)))
                for number in asked:
                    calls += [(ASK, i, number), (LEAST,)] + [(WITH_CODE, i, c) for c in range(count)]
                told = ask((FILE, small.text()), *calls)[1:]
                for place, number in enumerate(asked):
                    least, *with_each = told[place * (count + 2) + 1:(place + 1) * (count + 2)]
                    for c in range(count):
                        if with_each[c][0] == 1 and with_each[c][1] == least[1]:
                            stands[c].append(number)
            self.assertEqual(self.ranges(small, i), [ends(stands[c]) for c in range(count)])


class Idle(unittest.TestCase):
    def idle(self, codes, asked=1):
        return last((FILE, Small(0, [(3, [(0, 0), (0, 0)]), (asked, codes)]).text()), (IDLE, 1))

    def test_no_codes_or_one(self):
        self.assertEqual(self.idle([]), [0])
        self.assertEqual(self.idle([(5, 7)]), [0])

    def test_the_same_holes_and_cost(self):
        self.assertEqual(self.idle([(2, 5), (2, 5)]), [1, 1])
        self.assertEqual(self.idle([(2, 5)] * 8), [7, 1, 2, 3, 4, 5, 6, 7])

    def test_fewer_holes_for_the_same_cost(self):
        self.assertEqual(self.idle([(1, 5), (2, 5)]), [1, 1])
        self.assertEqual(self.idle([(2, 5), (1, 5)]), [1, 0])

    def test_less_cost_for_the_same_holes(self):
        self.assertEqual(self.idle([(2, 4), (2, 5)]), [1, 1])
        self.assertEqual(self.idle([(2, 5), (2, 4)]), [1, 0])

    def test_fewer_holes_and_less_cost(self):
        self.assertEqual(self.idle([(1, 4), (2, 5)]), [1, 1])
        self.assertEqual(self.idle([(2, 5), (1, 4)]), [1, 0])

    def test_neither(self):
        self.assertEqual(self.idle([(1, 5), (2, 4)]), [0])
        self.assertEqual(self.idle([(2, 4), (1, 5)]), [0])
        self.assertEqual(self.idle([(1, 9), (4, 1), (2, 5), (3, 2)]), [0])

    def test_rising(self):
        self.assertEqual(self.idle([(3, 3), (2, 5), (2, 3), (9, 9), (0, 9), (2, 3), (60, 2), (60, 1000000)]),
                         [5, 0, 1, 3, 5, 7])

    def test_it_is_the_cost_for_each_asking(self):
        # Asked 0 times, all codes cost 0 in all, but one's cost is no more than the other's just as before.
        self.assertEqual(self.idle([(1, 5), (2, 4)], asked=0), [0])
        self.assertEqual(self.idle([(2, 5), (2, 4)], asked=0), [1, 0])

    def test_each_field_has_its_own(self):
        text = Small(0, [(1, [(1, 1), (1, 1)]), (1, [(1, 1)]), (1, [(2, 2), (1, 1)])]).text()
        self.assertEqual(ask((FILE, text), (IDLE, 0), (IDLE, 1), (IDLE, 2), (TEXT,))[1:],
                         [[1, 1], [0], [1, 0], text_bytes(text)])

    def test_the_least_plan_needs_no_idle_code(self):
        for small in small_files(200):
            for i in range(len(small.fields)):
                idle = last((FILE, small.text()), (IDLE, i))
                self.assertEqual(idle, [len(idle) - 1] + sorted(set(idle[1:])))
                for c, code in enumerate(small.fields[i][1]):
                    others = [(other, place > c) for place, other in enumerate(small.fields[i][1]) if place != c]
                    is_idle = any(other[0] <= code[0] and other[1] <= code[1] and (other != code or not behind)
                                  for other, behind in others)
                    self.assertEqual(c in idle[1:], is_idle, (small.text(), i, c))
                if small.fitting():
                    self.assertTrue(any(plan[i] not in idle[1:] for plan in small.least_plans()))


if __name__ == "__main__":
    unittest.main()
