"""least, curve, count and check: the edges by hand, small files against all their plans, and the greatest file."""

import math
import unittest

from helper import CHECK, COUNT, CURVE, FILE, LEAST, PUT, Prompt, Small, ask, last, small_files


class ByHand(unittest.TestCase):
    def views(self, holes, fields):
        return ask((FILE, Small(holes, fields).text()), (LEAST,), (CURVE,), (COUNT,))[1:]

    def test_no_fields(self):
        self.assertEqual(self.views(0, []), [[1, 0, 0], [1, 0], [1]])
        self.assertEqual(self.views(2, []), [[1, 0, 0], [3, 0, 0, 0], [1]])
        self.assertEqual(last((FILE, "holes 60"), (CURVE,)), [61] + [0] * 61)

    def test_a_field_without_codes(self):
        self.assertEqual(self.views(1, [(5, [])]), [[0], [2, -1, -1], [0]])
        self.assertEqual(self.views(1, [(5, [(0, 1)]), (0, [])]), [[0], [2, -1, -1], [0]])
        self.assertEqual(self.views(1, [(0, []), (5, [(0, 1)])]), [[0], [2, -1, -1], [0]])

    def test_no_plan_that_fits(self):
        self.assertEqual(self.views(2, [(1, [(2, 1), (3, 0)]), (1, [(1, 1)])]), [[0], [3, -1, -1, -1], [0]])

    def test_a_plan_that_just_fits(self):
        self.assertEqual(self.views(3, [(1, [(2, 1), (3, 0)]), (1, [(1, 1)])]),
                         [[1, 2, 2, 0, 0], [4, -1, -1, -1, 2], [1]])

    def test_the_first_of_several_least_plans(self):
        self.assertEqual(self.views(2, [(1, [(2, 1), (1, 2)]), (1, [(1, 1), (0, 2)])]),
                         [[1, 3, 2, 0, 1], [3, -1, 4, 3], [2]])
        self.assertEqual(self.views(1, [(1, [(1, 1), (0, 2)]), (1, [(1, 1), (0, 2)])]),
                         [[1, 3, 2, 0, 1], [2, 4, 3], [2]])
        self.assertEqual(self.views(5, [(1, [(1, 3), (1, 3)]), (2, [(0, 9), (2, 1), (1, 1)])]),
                         [[1, 5, 2, 0, 1], [6, -1, 21, 5, 5, 5, 5], [4]])

    def test_the_cheapest_code_of_each_field_is_not_always_affordable(self):
        self.assertEqual(self.views(4, [(10, [(3, 1), (1, 3)]), (9, [(3, 1), (1, 4)])]),
                         [[1, 39, 2, 1, 0], [5, -1, -1, 66, 66, 39], [1]])

    def test_asked_0_times(self):
        self.assertEqual(self.views(3, [(0, [(3, 1000000), (0, 7)]), (2, [(0, 5), (1, 4)])]),
                         [[1, 8, 2, 1, 1], [4, 10, 8, 8, 8], [1]])
        self.assertEqual(self.views(1, [(0, [(1, 9), (0, 7), (2, 0)])]), [[1, 0, 1, 0], [2, 0, 0], [2]])

    def test_codes_of_0_holes(self):
        self.assertEqual(self.views(0, [(1, [(0, 3), (0, 2), (1, 0)]), (1, [(0, 1)])]), [[1, 3, 2, 1, 0], [1, 3], [1]])

    def test_a_field_put_behind_is_planned_too(self):
        self.assertEqual(ask((FILE, "holes 3\nfield a asked 2\ncode a holes 3 cost 1\ncode b holes 1 cost 2"), (LEAST,),
                             (PUT, "field b asked 1"), (LEAST,), (PUT, "code a holes 1 cost 7"), (LEAST,), (COUNT,))[1:],
                         [[1, 2, 1, 0], [2, 0], [0], [2, 1], [1, 11, 2, 1, 0], [1]])


class Check(unittest.TestCase):
    TEXT = Small(3, [(2, [(1, 5), (2, 3)]), (1, [(1, 4), (2, 0), (0, 9)])]).text()

    def test_what_it_takes_and_costs(self):
        for row, answer in [([0, 0], [1, 2, 14]), ([1, 0], [1, 3, 10]), ([1, 1], [0, 4, 6]), ([1, 2], [1, 2, 15])]:
            self.assertEqual(last((FILE, self.TEXT), (CHECK, row)), answer)

    def test_a_row_that_is_no_plan(self):
        for row in [[], [0], [0, 0, 0], [0, -1], [-1, 0], [2, 0], [0, 3], [0, 9223372036854775807],
                    [-9223372036854775808, 0], [0] * 2000]:
            with self.subTest(row=row):
                self.assertEqual(last((FILE, self.TEXT), (CHECK, row)), [-4])

    def test_without_fields_or_codes(self):
        self.assertEqual(last((FILE, "holes 4"), (CHECK, [])), [1, 0, 0])
        self.assertEqual(last((FILE, "holes 4"), (CHECK, [0])), [-4])
        self.assertEqual(last((FILE, "holes 4\nfield a asked 1"), (CHECK, [0])), [-4])
        self.assertEqual(last((FILE, "holes 4\nfield a asked 1"), (CHECK, [])), [-4])


class AgainstAllPlans(unittest.TestCase):
    def setUp(self):
        self.files = small_files(300)

    def test_the_files_are_of_every_kind(self):
        self.assertTrue(any(not small.fields for small in self.files))
        self.assertTrue(any(small.plans() and not small.least_plans() for small in self.files))
        self.assertTrue(sum(len(small.least_plans()) > 1 for small in self.files) > 50)
        self.assertTrue(sum(len(small.least_plans()) == 1 for small in self.files) > 50)

    def test_least(self):
        for small in self.files:
            with self.subTest(text=small.text()):
                self.assertEqual(last((FILE, small.text()), (LEAST,)), small.told(small.fitting()))

    def test_count(self):
        for small in self.files:
            with self.subTest(text=small.text()):
                self.assertEqual(last((FILE, small.text()), (COUNT,)), [len(small.least_plans())])

    def test_curve(self):
        for small in self.files:
            with self.subTest(text=small.text()):
                costs = [small.least_cost(holes) for holes in range(small.holes + 1)]
                answer = [len(costs)] + [-1 if cost is None else cost for cost in costs]
                self.assertEqual(last((FILE, small.text()), (CURVE,)), answer)

    def test_check(self):
        for small in self.files[:60]:
            with self.subTest(text=small.text()):
                for plan in small.plans()[:90]:
                    answer = [int(small.taken(plan) <= small.holes), small.taken(plan), small.cost(plan)]
                    self.assertEqual(last((FILE, small.text()), (CHECK, plan)), answer)

    def test_promise_1_no_plan_that_fits_costs_less(self):
        for small in self.files:
            told = last((FILE, small.text()), (LEAST,))
            fitting = small.fitting()
            self.assertEqual(told[0] == 1, len(fitting) > 0)
            self.assertTrue(all(told[1] <= small.cost(plan) for plan in fitting))
            if fitting:
                self.assertEqual(last((FILE, small.text()), (CHECK, told[3:]))[0::2], [1, told[1]])

    def test_promise_3_more_holes_cost_no_more_and_more_askings_no_less(self):
        for small in self.files:
            costs = [cost for cost in last((FILE, small.text()), (CURVE,))[1:]]
            fitting = [cost for cost in costs if cost != -1]
            self.assertEqual(costs, [-1] * (len(costs) - len(fitting)) + sorted(fitting, reverse=True))
            if fitting and small.fields:
                more = Small(small.holes, [(small.fields[0][0] + 1, small.fields[0][1])] + small.fields[1:])
                self.assertGreaterEqual(last((FILE, more.text()), (LEAST,))[1], fitting[-1])


class Greatest(Prompt):
    """Files at the document's limits. Going through their plans one by one would not end."""

    def test_all_plans_cost_the_most(self):
        small = Small(60, [(1000, [(0, 1000000)] * 8)] * 10)
        told = ask(*small.calls(), (LEAST,), (CURVE,), (COUNT,), (CHECK, [7] * 10))
        self.assertEqual(told[-4:], [[1, 10 ** 10, 10] + [0] * 10, [61] + [10 ** 10] * 61, [8 ** 10], [1, 0, 10 ** 10]])

    def test_a_code_of_more_holes_costs_less(self):
        small = Small(60, [(1000, [(holes, 1000000 - 1000 * holes) for holes in range(8)])] * 10)
        told = ask(*small.calls(), (LEAST,), (CURVE,), (COUNT,), (CHECK, [7] * 10))
        # The holes that are left over to 7 for each field are 10 together, none of them more than 7.
        count = math.comb(19, 9) - 10 * math.comb(11, 9)
        self.assertEqual(told[-4:], [[1, 10 ** 10 - 60 * 10 ** 6, 10, 0, 4] + [7] * 8,
                                     [61] + [10 ** 10 - 10 ** 6 * holes for holes in range(61)], [count],
                                     [0, 70, 10 ** 10 - 70 * 10 ** 6]])

    def test_no_plan_fits(self):
        small = Small(60, [(1000, [(60, 1000000)] * 8)] * 10)
        told = ask(*small.calls(), (LEAST,), (CURVE,), (COUNT,), (CHECK, [0] * 10))
        self.assertEqual(told[-4:], [[0], [61] + [-1] * 61, [0], [0, 600, 10 ** 10]])


if __name__ == "__main__":
    unittest.main()
