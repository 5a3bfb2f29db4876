"""The one list of calls: how it is read, how the answers are given back, and that nothing is kept."""

import unittest

from helper import (
    ACCEPT, ASK, BOUND, CHECK, CLEAR, COUNT, CURVE, DROP, FILE, HOLES, IDLE, LABELS, LEAST, LOOK, MEAN, MOST_CALLS,
    MOST_NUMBERS, PRICE, PUT, RANGE, TEXT, TOLD, WITH_CODE, WITHOUT, Prompt, Small, ask, flat, last, text_bytes)
from notchplan.cards import answers

SMALLEST = -9223372036854775808
GREATEST = 9223372036854775807
TWO = "holes 3\nfield a asked 2\ncode x holes 1 cost 5\ncode y holes 2 cost 3\nfield b asked 1\ncode x holes 1 cost 4"
# Each call that changes nothing, and what it answers of that file.
VIEWS = [
    ((LOOK, "holes 61"), [1, 6]), ((TEXT,), text_bytes(TWO)), ((TOLD,), [3, 2, 2, 2, 1, 1]),
    ((LEAST,), [1, 10, 2, 1, 0]), ((CURVE,), [4, -1, -1, 14, 10]), ((COUNT,), [1]), ((CHECK, [0, 0]), [1, 2, 14]),
    ((LABELS,), [12, -1, -1, 14, 10, -1, 4, 4, 4, 0, 0, 0, 0]),
    ((ACCEPT, [1, 1, 1, -9, 1, 1, 1, 0, 0, 0, 0, 0]), [1, -9]),
    ((ACCEPT, [1, 1, 1, -9, 1, 1, 5, 0, 0, 0, 0, 0]), [0, 1, 2]), ((BOUND, 1), [1, 10]), ((PRICE,), [1, 0, 10, 0]),
    ((WITH_CODE, 0, 0), [1, 14, 2, 0, 0]), ((WITHOUT, 0), [1, 4, 1, 0]), ((RANGE, 0, 0), [1, 0, 0]),
    ((MEAN,), [1, 10, 3]), ((IDLE, 0), [0])]


class ListOfCalls(unittest.TestCase):
    def test_each_answer_has_its_length_before_it(self):
        calls = [1, 7] + list(b"holes 5") + [6, 0, 6]
        self.assertEqual(answers(calls), [2, 5, 0, 2, 5, 0, 1, 0, 2, 0, 0])

    def test_all_calls_in_one_list(self):
        told = ask((FILE, TWO), (LOOK, TWO), (TOLD,), (LEAST,), (CURVE,), (COUNT,), (CHECK, [0, 0]), (DROP, 0),
                   (PUT, "field c asked 7"), (TEXT,), (CLEAR,), (TEXT,))
        self.assertEqual(told, [
            [3, 2], [0], [3, 2, 2, 2, 1, 1], [1, 10, 2, 1, 0], [4, -1, -1, 14, 10], [1], [1, 2, 14], [1], [2, 0],
            text_bytes("holes 3\nfield b asked 1\ncode x holes 1 cost 4\nfield c asked 7"), [0],
            text_bytes("holes 0")])

    def test_the_beginning_is_as_behind_clear(self):
        views = [(TEXT,), (TOLD,), (LEAST,), (CURVE,), (COUNT,), (CHECK, []), (DROP, 0), (CHECK, [0])]
        self.assertEqual(ask(*views), ask((FILE, TWO), (CLEAR,), *views)[2:])
        self.assertEqual(ask(*views),
                         [text_bytes("holes 0"), [0, 0], [1, 0, 0], [1, 0], [1], [1, 0, 0], [-5], [-4]])

    def test_nothing_is_kept_from_one_list_to_the_next(self):
        ask((FILE, TWO))
        self.assertEqual(ask((TOLD,), (TEXT,)), [[0, 0], text_bytes("holes 0")])
        first = ask((PUT, "field a asked 1"), (PUT, "code a holes 0 cost 1"), (LEAST,))
        self.assertEqual(ask((PUT, "field a asked 1"), (PUT, "code a holes 0 cost 1"), (LEAST,)), first)

    def test_what_is_handed_in_stays(self):
        calls = flat([(FILE, TWO), (PUT, "code z holes 0 cost 9"), (CHECK, [0, 1]), (DROP, 1), (LEAST,), (CLEAR,)])
        before = list(calls)
        answers(calls)
        self.assertEqual(calls, before)

    def test_what_is_given_back_is_a_new_list_of_whole_numbers(self):
        calls = flat([(FILE, TWO), (LOOK, "x"), (LEAST,), (CURVE,), (COUNT,), (CHECK, [0, 0]), (CHECK, [1, 0, 0])])
        told = answers(calls)
        self.assertIs(type(told), list)
        self.assertEqual({type(number) for number in told}, {int})
        self.assertIsNot(answers(calls), told)

    def test_a_hundred_calls(self):
        self.assertEqual(ask(*[(CLEAR,)] * 100), [[0]] * 100)

    def test_calls_of_all_kinds_in_one_list(self):
        views = [view for view, answer in VIEWS]
        shown = [answer for view, answer in VIEWS]
        calls = [(FILE, TWO)] + views + views[::-1]
        calls += [(ASK, 0, 9), (HOLES, 2), (PUT, "field c asked 7"), (DROP, 2), (ASK, 0, 2), (HOLES, 3)] + views
        calls += [(PUT, "code z holes 1 cost 4"), (IDLE, 1), (COUNT,), (ASK, 1, 1001), (RANGE, 1, 2), (CLEAR,), (TOLD,)]
        calls += [(FILE, TWO)] + views
        told = [[3, 2]] + shown + shown[::-1] + [[2], [3], [3, 0], [2], [9], [2]] + shown
        told += [[2, 2], [1, 1], [2], [-3], [-5], [0], [0, 0], [3, 2]] + shown
        self.assertEqual(len(calls), 83)
        self.assertEqual(ask(*calls), told)
        # Two lists one behind the other: each is as if it were the first.
        self.assertEqual(ask(*calls), told)
        self.assertEqual(ask(*views), ask((CLEAR,), *views)[1:])

    def test_each_kind_of_call_leaves_what_was_handed_in(self):
        for call in [view for view, answer in VIEWS] + [(ASK, 0, 5), (HOLES, 9)]:
            calls = flat([(FILE, TWO), call, call, (TEXT,)])
            before = list(calls)
            told = answers(calls)
            self.assertEqual(calls, before)
            self.assertEqual({type(number) for number in told}, {int})
            self.assertEqual(answers(calls), told)


class Refusals(unittest.TestCase):
    def test_a_refusal_is_alone_and_changes_nothing(self):
        wrong = [(FILE, "holes 61"), (FILE, [104, 256]), (FILE, ""), (FILE, TWO + "\n"), (LOOK, [-1]),
                 (PUT, "field a asked 1"), (PUT, "code x holes 0 cost 0"), (PUT, "field c asked 1\nfield d asked 1"),
                 (PUT, "code z holes 0 cost 0 "), (PUT, [-1]), (PUT, ""), (DROP, 2), (DROP, 10), (DROP, -1),
                 (CHECK, [0]), (CHECK, [0, 1]), (ACCEPT, []), (ACCEPT, [0] * 11), (ACCEPT, [0] * 11 + [10 ** 12 + 1]),
                 (BOUND, -1), (BOUND, 10 ** 9 + 1), (WITH_CODE, 2, 0), (WITH_CODE, 1, 1), (WITH_CODE, 0, 8),
                 (WITHOUT, 2), (WITHOUT, 10), (RANGE, 2, 0), (RANGE, 1, 1), (RANGE, 0, -1), (ASK, 2, 1), (ASK, 0, 1001),
                 (ASK, 0, -1), (HOLES, 61), (HOLES, -1), (IDLE, 2), (IDLE, -1)]
        for call in wrong:
            with self.subTest(call=call):
                told = ask((FILE, TWO), call, (TEXT,), (LEAST,))
                self.assertEqual(len(told[1]), 1)
                self.assertLess(told[1][0], 0)
                self.assertEqual(told[2:], [text_bytes(TWO), [1, 10, 2, 1, 0]])

    def test_look_changes_nothing(self):
        for text in ["holes 7", "holes 61", TWO + "\nfield c asked 5"]:
            self.assertEqual(ask((FILE, TWO), (LOOK, text), (TEXT,))[2], text_bytes(TWO))

    def test_drop_range_first_then_the_field(self):
        for i, answer in [(-1, -3), (10, -3), (9223372036854775807, -3), (-9223372036854775808, -3), (9, -5), (2, -5)]:
            self.assertEqual(last((FILE, TWO), (DROP, i)), [answer])
        for i, answer in [(-1, -3), (10, -3), (0, -5), (9, -5)]:
            self.assertEqual(last((DROP, i)), [answer])

    def test_the_field_of_without_and_idle(self):
        for call in (WITHOUT, IDLE):
            for i, answer in [(-1, -3), (10, -3), (GREATEST, -3), (SMALLEST, -3), (9, -5), (2, -5)]:
                self.assertEqual(last((FILE, TWO), (call, i)), [answer])
            for i, answer in [(-1, -3), (10, -3), (0, -5), (9, -5)]:
                self.assertEqual(last((call, i)), [answer])

    def test_the_field_then_the_code(self):
        for call in (WITH_CODE, RANGE):
            for i in (-1, 10, GREATEST, SMALLEST):
                for c in (-1, 0, 7, 8, GREATEST, SMALLEST):
                    self.assertEqual(last((FILE, TWO), (call, i, c)), [-3])
            # There's no such field: that comes ahead of a code out of its range.
            for i in (2, 9):
                for c in (-1, 0, 7, 8, GREATEST, SMALLEST):
                    self.assertEqual(last((FILE, TWO), (call, i, c)), [-5])
            for i, c, answer in [(0, -1, -3), (0, 8, -3), (0, GREATEST, -3), (0, SMALLEST, -3), (0, 2, -5), (0, 7, -5),
                                 (1, 1, -5), (1, 8, -3)]:
                self.assertEqual(last((FILE, TWO), (call, i, c)), [answer])
            for c, answer in [(-1, -3), (0, -5), (7, -5), (8, -3)]:
                self.assertEqual(last((FILE, "holes 3\nfield a asked 2"), (call, 0, c)), [answer])
                self.assertEqual(last((call, 0, c)), [-5])

    def test_the_field_then_the_number_of_askings(self):
        for i in (-1, 10, GREATEST, SMALLEST):
            for n in (-1, 0, 1000, 1001, GREATEST, SMALLEST):
                self.assertEqual(last((FILE, TWO), (ASK, i, n)), [-3])
        for i in (2, 9):
            for n in (-1, 0, 1000, 1001, GREATEST, SMALLEST):
                self.assertEqual(last((FILE, TWO), (ASK, i, n)), [-5])
        for n in (-1, 1001, GREATEST, SMALLEST):
            self.assertEqual(last((FILE, TWO), (ASK, 0, n)), [-3])


class Told(unittest.TestCase):
    def test_told_and_file(self):
        self.assertEqual(ask((FILE, TWO), (TOLD,)), [[3, 2], [3, 2, 2, 2, 1, 1]])
        self.assertEqual(ask((FILE, "holes 60"), (TOLD,)), [[60, 0], [60, 0]])
        self.assertEqual(last((FILE, "holes 0\nfield a asked 1000\nfield b asked 0"), (TOLD,)), [0, 2, 1000, 0, 0, 0])

    def test_file_takes_the_place_of_the_file_before(self):
        self.assertEqual(ask((FILE, TWO), (FILE, "holes 1\nfield a asked 3"), (TOLD,), (TEXT,)),
                         [[3, 2], [1, 1], [1, 1, 3, 0], text_bytes("holes 1\nfield a asked 3")])


def put_behind(small, call):
    """What is answered to the call, made behind those that make the file as often as one list has room for."""
    calls = small.calls()
    room = (MOST_NUMBERS - len(flat(calls))) // len(flat([call]))
    count = min(MOST_CALLS - len(calls), room)
    return ask(*calls, *[call] * count)[len(calls):]


class Greatest(Prompt):
    """Lists of a hundred calls on files at the document's limits."""

    EVEN = Small(60, [(1000, [(holes, 1000000 - 1000 * holes) for holes in range(8)])] * 10)
    UNEVEN = Small(60, [(1000 - i, [((5 * c + i) % 9, 1000000 - 997 * c * i) for c in range(8)]) for i in range(10)])
    STEEP = Small(60, [(1000, [(0, 1000000)] * 4 + [(30, 0)] * 4)] * 10)

    def hundred(self, call):
        """The first answers to the call of each file; the others are all the same."""
        firsts = []
        for small in (self.EVEN, self.UNEVEN, self.STEEP):
            told = put_behind(small, call)
            self.assertGreater(len(told), 15)
            self.assertEqual(told, [told[0]] * len(told))
            firsts.append(told[0])
        return firsts

    def test_least(self):
        self.assertEqual([told[1] for told in self.hundred((LEAST,))], [994 * 10 ** 7, 9642934015, 8 * 10 ** 9])

    def test_curve(self):
        self.assertEqual([told[-1] for told in self.hundred((CURVE,))], [994 * 10 ** 7, 9642934015, 8 * 10 ** 9])

    def test_count(self):
        self.assertEqual(self.hundred((COUNT,))[2], [45 * 4 ** 10])

    def test_labels(self):
        for told in self.hundred((LABELS,)):
            self.assertEqual(told[0], 671)

    def test_accept(self):
        for small, cost in [(self.EVEN, 994 * 10 ** 7), (self.UNEVEN, 9642934015), (self.STEEP, 8 * 10 ** 9)]:
            labels = [10 ** 12 if label == -1 else label for label in last(*small.calls(), (LABELS,))[1:]]
            told = put_behind(small, (ACCEPT, labels))
            self.assertEqual(told, [[1, cost]] * len(told))
            self.assertGreater(len(told), 15)

    def test_bound(self):
        self.assertEqual(self.hundred((BOUND, 10 ** 9))[2], [1, 10 ** 10 - 60 * 10 ** 9])

    def test_price(self):
        self.assertEqual(self.hundred((PRICE,))[0::2],
                         [[1, 10 ** 6, 994 * 10 ** 7, 0], [1, 33333334, 10 ** 10 - 60 * 33333334, 40]])

    def test_with_code(self):
        self.assertEqual(self.hundred((WITH_CODE, 9, 7))[2], [1, 8 * 10 ** 9, 10] + [0] * 8 + [4, 7])

    def test_without(self):
        self.assertEqual(self.hundred((WITHOUT, 9))[2], [1, 7 * 10 ** 9, 9] + [0] * 7 + [4, 4])

    def test_range(self):
        self.assertEqual(self.hundred((RANGE, 0, 7))[2], [1, 1000, 1000])

    def test_ask_and_holes(self):
        self.assertEqual(self.hundred((ASK, 0, 1000)), [[1000]] * 3)
        self.assertEqual(self.hundred((HOLES, 60)), [[60]] * 3)

    def test_mean(self):
        self.assertEqual(self.hundred((MEAN,)), [[1, 994000, 1], [1, 175326073, 181], [1, 800000, 1]])

    def test_idle(self):
        self.assertEqual(self.hundred((IDLE, 5))[0::2], [[0], [6, 1, 2, 3, 5, 6, 7]])

    def test_the_calls_on_a_text(self):
        for call in [(TEXT,), (TOLD,), (CHECK, [7] * 10), (DROP, 10), (PUT, "code z holes 1 cost 1"),
                     (LOOK, "holes 60\n" * 20), (FILE, "holes 60\n" * 20)]:
            self.hundred(call)


if __name__ == "__main__":
    unittest.main()
