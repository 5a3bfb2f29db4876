"""labels, accept, bound and price: the table, and the bounds by accepted labels and by a price for each hole."""

import unittest

from helper import (
    ACCEPT, BOUND, CURVE, FILE, LABELS, LEAST, PRICE, TEXT, Numbers, Small, ask, last, small_files, text_bytes)

GREAT = 10 ** 12
TWO = Small(3, [(2, [(1, 5), (2, 3)]), (1, [(1, 4), (2, 0), (0, 9)])])
TABLE = [-1, 19, 14, 10, 9, 4, 0, 0, 0, 0, 0, 0]
EDGES = [GREAT + 1, -GREAT - 1, 9223372036854775807, -9223372036854775808]


def great_for_none(numbers):
    return [GREAT if number in (-1, None) else number for number in numbers]


def accepted(small, labels):
    """What accept answers to so many labels that are in their range, label by label as the document has it."""
    width = small.holes + 1
    for row in range(len(small.fields) + 1):
        for holes in range(width):
            label = labels[row * width + holes]
            if row == len(small.fields):
                right = label <= 0
            else:
                asked, codes = small.fields[row]
                right = all(label <= asked * cost + labels[(row + 1) * width + holes - taken]
                            for taken, cost in codes if taken <= holes)
            if not right:
                return [0, row, holes]
    return [1, labels[width - 1]]


class Labels(unittest.TestCase):
    def test_by_hand(self):
        self.assertEqual(last((FILE, TWO.text()), (LABELS,)), [12] + TABLE)

    def test_no_fields_have_one_row(self):
        self.assertEqual(last((LABELS,)), [1, 0])
        self.assertEqual(last((FILE, "holes 3"), (LABELS,)), [4, 0, 0, 0, 0])

    def test_no_holes(self):
        self.assertEqual(last((FILE, Small(0, [(2, [(0, 5), (1, 0)]), (1, [(0, 4)])]).text()), (LABELS,)),
                         [3, 14, 4, 0])
        self.assertEqual(last((FILE, Small(0, [(2, [(0, 5)]), (1, [(1, 4)])]).text()), (LABELS,)), [3, -1, -1, 0])

    def test_a_field_without_codes(self):
        self.assertEqual(last((FILE, Small(1, [(2, []), (1, [(1, 4)])]).text()), (LABELS,)), [6, -1, -1, -1, 4, 0, 0])
        self.assertEqual(last((FILE, Small(1, [(2, [(0, 1)]), (1, [])]).text()), (LABELS,)),
                         [6, -1, -1, -1, -1, 0, 0])

    def test_a_great_cost(self):
        self.assertEqual(last((FILE, Small(1, [(1000, [(1, 10 ** 6)])] * 2).text()), (LABELS,)),
                         [6, -1, -1, -1, 10 ** 9, 0, 0])

    def test_against_all_plans_of_the_last_fields(self):
        for small in small_files(150):
            with self.subTest(text=small.text()):
                numbers = [-1 if number is None else number for number in small.table()]
                told = ask((FILE, small.text()), (LABELS,), (CURVE,), (LABELS,))
                self.assertEqual(told[1], [len(numbers)] + numbers)
                self.assertEqual(told[2], [small.holes + 1] + told[1][1:small.holes + 2])
                self.assertEqual(told[3], told[1])


class Accept(unittest.TestCase):
    def accept(self, small, labels):
        told = ask((FILE, small.text()), (ACCEPT, labels), (TEXT,))
        self.assertEqual(told[2], text_bytes(small.text()))
        return told[1]

    def test_the_table(self):
        self.assertEqual(self.accept(TWO, great_for_none(TABLE)), [1, 10])
        # A label for none is as told whatever it is, if no code takes few enough holes; -1 for none is, too.
        self.assertEqual(self.accept(TWO, TABLE), [1, 10])

    def test_the_table_with_one_label_raised(self):
        for small in [TWO] + small_files(60):
            table = great_for_none(small.table())
            for place, label in enumerate(table):
                raised = table[:place] + [label + 1] + table[place + 1:]
                answer = [-4] if label == GREAT else [0, *divmod(place, small.holes + 1)]
                with self.subTest(text=small.text(), place=place):
                    self.assertEqual(self.accept(small, raised), answer)

    def test_a_row_of_another_length(self):
        for labels in [[], TABLE[:-1], TABLE + [0], TABLE * 2, [0], [0] * 2000]:
            with self.subTest(labels=labels):
                self.assertEqual(self.accept(TWO, labels), [-4])
        self.assertEqual(last((ACCEPT, [])), [-4])
        self.assertEqual(last((ACCEPT, [0, 0])), [-4])

    def test_the_range_of_labels(self):
        low = [-GREAT] * 12
        self.assertEqual(self.accept(TWO, low), [1, -GREAT])
        self.assertEqual(self.accept(TWO, [GREAT] + low[1:]), [1, -GREAT])
        self.assertEqual(self.accept(TWO, low[:1] + [GREAT] + low[2:]), [0, 0, 1])
        self.assertEqual(self.accept(TWO, low[:-1] + [GREAT]), [0, 2, 3])
        for number in EDGES:
            for place in range(12):
                with self.subTest(number=number, place=place):
                    self.assertEqual(self.accept(TWO, low[:place] + [number] + low[place + 1:]), [-4])
        # The range comes ahead of a label that isn't as told.
        self.assertEqual(self.accept(TWO, [5] * 11 + [GREAT + 1]), [-4])

    def test_the_first_label_that_is_not_as_told(self):
        self.assertEqual(self.accept(TWO, [GREAT] * 12), [0, 2, 0])
        self.assertEqual(self.accept(TWO, [0] * 4 + [9, 5, 0, 1] + [0] * 4), [0, 1, 1])
        self.assertEqual(self.accept(TWO, [0] * 4 + [9, 4, 0, 0] + [0, 1, 1, 0]), [0, 2, 1])
        self.assertEqual(self.accept(TWO, [0, 19, 14, 11] + [9, 4, 1, 0] + [1, 0, 0, 0]), [0, 0, 3])

    def test_a_label_is_held_against_each_code_that_takes_no_more_holes(self):
        one = Small(2, [(1, [(2, 1), (1, 5), (0, 9)])])
        self.assertEqual(self.accept(one, [9, 5, 1, 0, 0, 0]), [1, 1])
        for labels, answer in [([10, 5, 1], [0, 0, 0]), ([9, 6, 1], [0, 0, 1]), ([9, 5, 2], [0, 0, 2])]:
            self.assertEqual(self.accept(one, labels + [0, 0, 0]), answer)
        # The next row's label is the one for the holes that are left.
        self.assertEqual(self.accept(one, [9, 5, -6, -7, 0, 0]), [0, 0, 0])
        self.assertEqual(self.accept(one, [2, -2, -6, -7, 0, 0]), [1, -6])
        self.assertEqual(self.accept(one, [2, -1, -6, -7, 0, 0]), [0, 0, 1])
        self.assertEqual(self.accept(one, [2, -2, -5, -7, 0, 0]), [0, 0, 2])

    def test_no_fields(self):
        self.assertEqual(last((ACCEPT, [0])), [1, 0])
        self.assertEqual(last((ACCEPT, [-7])), [1, -7])
        self.assertEqual(last((ACCEPT, [1])), [0, 0, 0])
        none = Small(2, [])
        self.assertEqual(self.accept(none, [0, -3, -2]), [1, -2])
        self.assertEqual(self.accept(none, [0, 0, 1]), [0, 0, 2])
        self.assertEqual(self.accept(none, [-GREAT, 0, -GREAT]), [1, -GREAT])

    def test_a_field_without_codes(self):
        one = Small(1, [(3, [])])
        self.assertEqual(self.accept(one, [GREAT, GREAT, 0, 0]), [1, GREAT])
        self.assertEqual(self.accept(one, [GREAT, -GREAT, 0, 0]), [1, -GREAT])
        self.assertEqual(self.accept(one, [0, 0, 0, 1]), [0, 1, 1])
        two = Small(0, [(1, [(0, 4)]), (3, [])])
        self.assertEqual(self.accept(two, [GREAT, GREAT - 4, 0]), [1, GREAT])
        self.assertEqual(self.accept(two, [GREAT, GREAT - 5, 0]), [0, 0, 0])

    def test_labels_by_a_fixed_rule(self):
        numbers = Numbers(7)
        seen = set()
        for small in small_files(200):
            table = great_for_none(small.table())
            for spread in (1, 2, 9):
                labels = [max(label + 1 - numbers.below(spread + 1) - numbers.below(2), -GREAT)
                          if label < GREAT else numbers.below(50) for label in table]
                with self.subTest(text=small.text(), labels=labels):
                    answer = self.accept(small, labels)
                    self.assertEqual(answer, accepted(small, labels))
                    seen.add(answer[0])
                    # Promise 2: no plan that fits comes below what accepted labels tell.
                    if answer[0] == 1 and small.fitting():
                        self.assertLessEqual(answer[1], small.least_cost(small.holes))
        self.assertEqual(seen, {0, 1})

    def test_promise_2_the_table_is_accepted(self):
        for small in small_files(200):
            with self.subTest(text=small.text()):
                told = ask((FILE, small.text()), (LABELS,), (LEAST,))
                answer = self.accept(small, great_for_none(told[1][1:]))
                self.assertEqual(answer, [1, told[2][1] if told[2][0] else GREAT])


class Bound(unittest.TestCase):
    def test_by_hand(self):
        for price, answer in [(0, 6), (1, 7), (2, 8), (3, 9), (4, 10), (5, 9), (9, 1), (10 ** 9, 19 - 2 * 10 ** 9)]:
            self.assertEqual(last((FILE, TWO.text()), (BOUND, price)), [1, answer])

    def test_the_range_of_prices(self):
        told = ask((FILE, TWO.text()), (BOUND, -1), (BOUND, 10 ** 9 + 1), (BOUND, 9223372036854775807),
                   (BOUND, -9223372036854775808), (TEXT,))
        self.assertEqual(told[1:], [[-3]] * 4 + [text_bytes(TWO.text())])
        self.assertEqual(last((FILE, "holes 1\nfield a asked 1"), (BOUND, -1)), [-3])

    def test_a_field_without_codes(self):
        for price in (0, 1, 10 ** 9):
            self.assertEqual(last((FILE, "holes 1\nfield a asked 1"), (BOUND, price)), [0])
            self.assertEqual(last((FILE, Small(1, [(1, [(1, 1)]), (1, [])]).text()), (BOUND, price)), [0])

    def test_no_fields(self):
        self.assertEqual(ask((BOUND, 0), (BOUND, 10 ** 9)), [[1, 0], [1, 0]])
        self.assertEqual(ask((FILE, "holes 60"), (BOUND, 0), (BOUND, 7), (BOUND, 10 ** 9))[1:],
                         [[1, 0], [1, -420], [1, -60 * 10 ** 9]])

    def test_codes_of_more_holes_than_the_file_count_too(self):
        self.assertEqual(ask((FILE, Small(1, [(2, [(60, 1), (0, 9)])]).text()), (BOUND, 0), (BOUND, 1))[1:],
                         [[1, 2], [1, 17]])
        self.assertEqual(last((FILE, Small(0, [(2, [(60, 1)])]).text()), (BOUND, 10 ** 9)), [1, 2 + 60 * 10 ** 9])

    def test_promise_2_no_plan_that_fits_comes_below_a_bound(self):
        for small in small_files(200):
            with self.subTest(text=small.text()):
                prices = [0, 1, 2, 3, 5, 8, 13, 10 ** 9]
                told = ask((FILE, small.text()), *[(BOUND, price) for price in prices])[1:]
                bounds = [small.bound(price) for price in prices]
                self.assertEqual(told, [[0] if least is None else [1, least] for least in bounds])
                for plan in small.fitting():
                    self.assertTrue(all(least[1] <= small.cost(plan) for least in told))


class Price(unittest.TestCase):
    def price(self, holes, fields):
        return last((FILE, Small(holes, fields).text()), (PRICE,))

    def test_no_plan_fits(self):
        self.assertEqual(self.price(1, [(1, [(2, 1)])]), [0])
        self.assertEqual(self.price(60, [(1, [(0, 1)]), (0, [])]), [0])
        self.assertEqual(self.price(59, [(1, [(30, 1)])] * 2), [0])

    def test_no_fields(self):
        self.assertEqual(last((PRICE,)), [1, 0, 0, 0])
        self.assertEqual(self.price(60, []), [1, 0, 0, 0])

    def test_holes_left_over(self):
        self.assertEqual(self.price(5, TWO.fields), [1, 0, 6, 0])
        self.assertEqual(self.price(60, [(0, [(60, 7)])]), [1, 0, 0, 0])

    def test_the_least_of_several(self):
        # From 5 on the bound is always 10, up to 4 it's twice the price.
        self.assertEqual(self.price(0, [(2, [(2, 0), (0, 5)])]), [1, 5, 10, 0])
        # The bound is 14 by the price 4 and by 5.
        self.assertEqual(self.price(2, TWO.fields), [1, 4, 14, 0])
        # Where all prices are as good, the least is 0.
        self.assertEqual(self.price(3, [(2, [(3, 5)])]), [1, 0, 10, 0])
        # Between two whole prices the bound would be greater still: the two may be as good, or either better.
        self.assertEqual(self.price(1, [(1, [(0, 7), (2, 0)])]), [1, 3, 3, 4])
        self.assertEqual(self.price(1, [(1, [(0, 8), (3, 0)])]), [1, 3, 5, 3])
        self.assertEqual(self.price(2, [(1, [(0, 8), (3, 0)])]), [1, 2, 2, 6])

    def test_the_greatest(self):
        steep = (1000, [(0, 10 ** 6), (1, 0)])
        self.assertEqual(self.price(0, [steep]), [1, 10 ** 9, 10 ** 9, 0])
        self.assertEqual(self.price(1, [steep]), [1, 0, 0, 0])
        self.assertEqual(self.price(9, [steep] * 10), [1, 10 ** 9, 10 ** 9, 0])
        self.assertEqual(self.price(59, [(1000, [(60, 0), (59, 10 ** 6)])]), [1, 10 ** 9, 10 ** 9, 0])
        self.assertEqual(self.price(0, [(1000, [(0, 10 ** 6), (1, 1)])]), [1, 999999000, 10 ** 9, 0])
        self.assertEqual(self.price(0, [(999, [(0, 10 ** 6), (1, 0)])]), [1, 999 * 10 ** 6, 999 * 10 ** 6, 0])
        told = ask((FILE, Small(0, [steep]).text()), (BOUND, 10 ** 9 - 1), (BOUND, 10 ** 9), (LEAST,))
        self.assertEqual(told[1:], [[1, 10 ** 9 - 1], [1, 10 ** 9], [1, 10 ** 9, 1, 0]])

    def test_against_a_walk_over_all_prices(self):
        gaps = 0
        for small in small_files(200) + small_files(60, asked=6, cost=30):
            # No code costs more than 145 in all, so behind that price the bound doesn't rise.
            bounds = [small.bound(price) for price in range(150)] if small.plans() else []
            cost = small.least_cost(small.holes)
            with self.subTest(text=small.text()):
                answer = [0]
                if cost is not None:
                    answer = [1, bounds.index(max(bounds)), max(bounds), cost - max(bounds)]
                    gaps += answer[3] > 0
                told = ask((FILE, small.text()), (PRICE,), (LEAST,), (TEXT,))
                self.assertEqual(told[1], answer)
                self.assertEqual(told[3], text_bytes(small.text()))
                if answer[0]:
                    self.assertEqual(last((FILE, small.text()), (BOUND, told[1][1])), [1, told[1][2]])
                    self.assertEqual(told[2][1], told[1][2] + told[1][3])
                    self.assertGreaterEqual(told[1][3], 0)
        self.assertGreater(gaps, 5)


if __name__ == "__main__":
    unittest.main()
