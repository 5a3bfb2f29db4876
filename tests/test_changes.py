"""ask, holes and mean: the file changed by one number, and what that makes of the other answers."""

import math
import unittest

from helper import (
    ASK, CLEAR, CURVE, DROP, FILE, HOLES, LABELS, LEAST, MEAN, PRICE, PUT, RANGE, TEXT, TOLD, Small, ask, last,
    small_files, text_bytes)

TWO = Small(3, [(2, [(1, 5), (2, 3)]), (1, [(1, 4), (2, 0), (0, 9)])])


class Ask(unittest.TestCase):
    def test_it_answers_the_number_before(self):
        self.assertEqual(ask((FILE, TWO.text()), (ASK, 0, 0), (ASK, 0, 1000), (ASK, 1, 7), (ASK, 0, 1000), (ASK, 0, 3),
                             (TOLD,))[1:], [[2], [0], [1], [1000], [1000], [3, 2, 3, 2, 7, 3]])

    def test_the_range(self):
        wrong = [(ASK, 0, -1), (ASK, 0, 1001), (ASK, 0, 9223372036854775807), (ASK, 0, -9223372036854775808)]
        self.assertEqual(ask((FILE, TWO.text()), *wrong, (TEXT,))[1:], [[-3]] * 4 + [text_bytes(TWO.text())])

    def test_what_the_others_say_behind_it(self):
        told = ask((FILE, TWO.text()), (LEAST,), (ASK, 0, 1), (LEAST,), (ASK, 0, 3), (LEAST,), (CURVE,), (TEXT,),
                   (TOLD,), (RANGE, 0, 0), (RANGE, 1, 2), (LABELS,))
        self.assertEqual(told[1:], [
            [1, 10, 2, 0, 1], [2], [1, 5, 2, 0, 1], [1], [1, 13, 2, 1, 0], [4, -1, 24, 18, 13],
            text_bytes(TWO.with_asked(0, 3).text()), [3, 2, 3, 2, 1, 3], [1, 0, 2], [1, 0, 0],
            [12, -1, 24, 18, 13, 9, 4, 0, 0, 0, 0, 0, 0]])

    def test_drop_and_put_behind_it(self):
        told = ask((FILE, TWO.text()), (ASK, 1, 8), (DROP, 0), (TOLD,), (ASK, 0, 9), (ASK, 1, 9),
                   (PUT, "code z holes 0 cost 1"), (PUT, "field z asked 5"), (ASK, 1, 6), (TEXT,))
        self.assertEqual(told[1:8], [[1], [1], [3, 1, 8, 3], [8], [-5], [1, 4], [2, 0]])
        self.assertEqual(told[8:], [[5], text_bytes(
            "holes 3\nfield b asked 9\ncode a holes 1 cost 4\ncode b holes 2 cost 0\ncode c holes 0 cost 9\n"
            "code z holes 0 cost 1\nfield z asked 6")])

    def test_ask_ahead_of_drop_of_another_field(self):
        self.assertEqual(ask((FILE, TWO.text()), (ASK, 0, 4), (DROP, 1), (TEXT,), (FILE, TWO.text()), (TEXT,))[3:],
                         [text_bytes(TWO.with_asked(0, 4).without(1).text()), [3, 2], text_bytes(TWO.text())])

    def test_a_field_without_codes(self):
        self.assertEqual(ask((PUT, "field a asked 5"), (ASK, 0, 0), (TOLD,), (LEAST,)),
                         [[1, 0], [5], [0, 1, 0, 0], [0]])

    def test_it_is_as_if_the_file_had_that_number(self):
        for small in small_files(60):
            for i in range(len(small.fields)):
                views = [(LEAST,), (CURVE,), (LABELS,), (PRICE,), (MEAN,), (TEXT,)]
                told = ask((FILE, small.text()), (ASK, i, 7), *views)
                self.assertEqual(told[1], [small.fields[i][0]])
                self.assertEqual(told[2:], ask((FILE, small.with_asked(i, 7).text()), *views)[1:])

    def test_promise_3_asked_more_often_it_costs_no_less(self):
        for small in small_files(100):
            for i in range(len(small.fields)):
                calls = []
                for asked in (0, 1, 2, 3, 4, 50, 1000):
                    calls += [(ASK, i, asked), (LEAST,)]
                costs = [answer[1] for answer in ask((FILE, small.text()), *calls)[2::2] if answer[0] == 1]
                self.assertEqual(costs, sorted(costs))
                self.assertEqual(len(costs), 7 if small.fitting() else 0)


class Holes(unittest.TestCase):
    def test_it_answers_the_number_before(self):
        self.assertEqual(ask((HOLES, 0), (HOLES, 60), (HOLES, 5), (TOLD,), (CLEAR,), (HOLES, 1)),
                         [[0], [0], [60], [5, 0], [0], [0]])
        self.assertEqual(ask((FILE, TWO.text()), (HOLES, 60), (HOLES, 0), (TOLD,))[1:],
                         [[3], [60], [0, 2, 2, 2, 1, 3]])

    def test_the_range(self):
        for h in (-1, 61, 9223372036854775807, -9223372036854775808):
            self.assertEqual(ask((FILE, TWO.text()), (HOLES, h), (TEXT,))[1:], [[-3], text_bytes(TWO.text())])

    def test_what_the_others_say_behind_it(self):
        told = ask((FILE, TWO.text()), (HOLES, 1), (LEAST,), (CURVE,), (TEXT,), (TOLD,), (RANGE, 0, 0), (RANGE, 0, 1),
                   (LABELS,), (HOLES, 4), (LEAST,), (CURVE,), (RANGE, 0, 0), (HOLES, 0), (LEAST,), (CURVE,))
        self.assertEqual(told[1:], [
            [3], [1, 19, 2, 0, 2], [2, -1, 19], text_bytes(Small(1, TWO.fields).text()), [1, 2, 2, 2, 1, 3],
            [1, 0, 1000], [0], [6, -1, 19, 9, 4, 0, 0], [1], [1, 6, 2, 1, 1], [5, -1, 19, 14, 10, 6], [1, 0, 0], [4],
            [0], [1, -1]])

    def test_drop_put_and_file_behind_it(self):
        told = ask((FILE, TWO.text()), (HOLES, 7), (DROP, 1), (PUT, "code z holes 7 cost 0"), (LEAST,), (TEXT,),
                   (FILE, TWO.text()), (TOLD,))
        self.assertEqual(told[2:], [[1], [1, 3], [1, 0, 1, 2], text_bytes(
            "holes 7\nfield a asked 2\ncode a holes 1 cost 5\ncode b holes 2 cost 3\ncode z holes 7 cost 0"), [3, 2],
            [3, 2, 2, 2, 1, 3]])

    def test_promise_3_with_more_holes_it_costs_no_more(self):
        for small in small_files(60):
            calls = []
            for holes in range(13):
                calls += [(HOLES, holes), (LEAST,)]
            told = ask((FILE, small.text()), (HOLES, 12), (CURVE,), *calls)
            costs = [answer[1] if answer[0] == 1 else -1 for answer in told[4::2]]
            self.assertEqual(told[2], [13] + costs)
            self.assertEqual(costs, [-1 if small.least_cost(holes) is None else small.least_cost(holes)
                                     for holes in range(13)])
            fitting = [cost for cost in costs if cost != -1]
            self.assertEqual(fitting, sorted(fitting, reverse=True))


class Mean(unittest.TestCase):
    def mean(self, holes, fields):
        return last((FILE, Small(holes, fields).text()), (MEAN,))

    def test_by_hand(self):
        self.assertEqual(last((FILE, TWO.text()), (MEAN,)), [1, 10, 3])
        self.assertEqual(self.mean(0, [(1, [(0, 7)])]), [1, 7, 1])

    def test_no_plan_fits(self):
        self.assertEqual(self.mean(0, [(1, [(1, 7)])]), [0])
        self.assertEqual(self.mean(0, [(1, [])]), [0])

    def test_asked_0_times(self):
        self.assertEqual(last((MEAN,)), [-7])
        self.assertEqual(self.mean(60, []), [-7])
        self.assertEqual(self.mean(0, [(0, [(0, 7)]), (0, [(0, 9)])]), [-7])
        told = ask((FILE, TWO.text()), (ASK, 0, 0), (MEAN,), (ASK, 1, 0), (MEAN,), (TEXT,))
        self.assertEqual(told[2:], [[1, 0, 1], [1], [-7],
                                    text_bytes(TWO.with_asked(0, 0).with_asked(1, 0).text())])

    def test_no_plan_fits_is_looked_at_ahead_of_asked_0_times(self):
        self.assertEqual(self.mean(0, [(0, [(1, 7)])]), [0])
        self.assertEqual(self.mean(0, [(0, [])]), [0])
        self.assertEqual(self.mean(0, [(0, [(0, 1)]), (0, [])]), [0])

    def test_a_cost_of_0(self):
        self.assertEqual(self.mean(0, [(7, [(0, 0)])]), [1, 0, 1])
        self.assertEqual(self.mean(0, [(6, [(0, 0)]), (0, [(0, 9)]), (9, [(0, 0)])]), [1, 0, 1])

    def test_lowest_terms(self):
        self.assertEqual(self.mean(0, [(4, [(0, 3)]), (2, [(0, 1)])]), [1, 7, 3])
        self.assertEqual(self.mean(0, [(6, [(0, 1)]), (6, [(0, 0)])]), [1, 1, 2])
        self.assertEqual(self.mean(0, [(0, [(0, 5)]), (6, [(0, 4)]), (4, [(0, 9)])]), [1, 6, 1])
        self.assertEqual(self.mean(0, [(1000, [(0, 10 ** 6)])] * 10), [1, 10 ** 6, 1])
        self.assertEqual(self.mean(0, [(999, [(0, 999999)]), (1000, [(0, 10 ** 6)])]), [1, 1998999001, 1999])

    def test_against_all_plans(self):
        for small in small_files(200):
            with self.subTest(text=small.text()):
                asked = sum(field[0] for field in small.fields)
                answer = [0]
                if small.fitting():
                    cost = small.least_cost(small.holes)
                    divisor = math.gcd(cost, asked)
                    answer = [1, cost // divisor, asked // divisor] if asked else [-7]
                self.assertEqual(last((FILE, small.text()), (MEAN,)), answer)


if __name__ == "__main__":
    unittest.main()
