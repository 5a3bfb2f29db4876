"""The one list of calls: how it is read, how the answers are given back, and that nothing is kept."""

import unittest

from helper import CHECK, CLEAR, COUNT, CURVE, DROP, FILE, LEAST, LOOK, PUT, TEXT, TOLD, ask, flat, last, text_bytes
from notchplan.cards import answers

TWO = "holes 3\nfield a asked 2\ncode x holes 1 cost 5\ncode y holes 2 cost 3\nfield b asked 1\ncode x holes 1 cost 4"


class ListOfCalls(unittest.TestCase):
    def test_each_answer_has_its_length_before_it(self):
        calls = [1, 7] + list(b"holes 5") + [6, 0, 6]
        self.assertEqual(answers(calls), [2, 5, 0, 2, 5, 0, 1, 0, 2, 0, 0])

    def test_all_calls_in_one_list(self):
        told = ask((FILE, TWO), (LOOK, TWO), (TOLD,), (LEAST,), (CURVE,), (COUNT,), (CHECK, [0, 0]), (DROP, 0),
                   (PUT, "field c asked 7"), (TEXT,), (CLEAR,), (TEXT,))
        self.assertEqual(told, [
            [3, 2], [0], [3, 2, 2, 2, 1, 1], [1, 10, 2, 1, 0], [4, -1, -1, 14, 10], [1], [1, 2, 14], [1], [2, 0],
            text_bytes("holes 3\nfield b asked 1\ncode x holes 1 cost 4\nfield c asked 7"), [0],
            text_bytes("holes 0")])

    def test_the_beginning_is_as_behind_clear(self):
        views = [(TEXT,), (TOLD,), (LEAST,), (CURVE,), (COUNT,), (CHECK, []), (DROP, 0), (CHECK, [0])]
        self.assertEqual(ask(*views), ask((FILE, TWO), (CLEAR,), *views)[2:])
        self.assertEqual(ask(*views),
                         [text_bytes("holes 0"), [0, 0], [1, 0, 0], [1, 0], [1], [1, 0, 0], [-5], [-4]])

    def test_nothing_is_kept_from_one_list_to_the_next(self):
        ask((FILE, TWO))
        self.assertEqual(ask((TOLD,), (TEXT,)), [[0, 0], text_bytes("holes 0")])
        first = ask((PUT, "field a asked 1"), (PUT, "code a holes 0 cost 1"), (LEAST,))
        self.assertEqual(ask((PUT, "field a asked 1"), (PUT, "code a holes 0 cost 1"), (LEAST,)), first)

    def test_what_is_handed_in_stays(self):
        calls = flat([(FILE, TWO), (PUT, "code z holes 0 cost 9"), (CHECK, [0, 1]), (DROP, 1), (LEAST,), (CLEAR,)])
        before = list(calls)
        answers(calls)
        self.assertEqual(calls, before)

    def test_what_is_given_back_is_a_new_list_of_whole_numbers(self):
        calls = flat([(FILE, TWO), (LOOK, "x"), (LEAST,), (CURVE,), (COUNT,), (CHECK, [0, 0]), (CHECK, [1, 0, 0])])
        told = answers(calls)
        self.assertIs(type(told), list)
        self.assertEqual({type(number) for number in told}, {int})
        self.assertIsNot(answers(calls), told)

    def test_a_hundred_calls(self):
        self.assertEqual(ask(*[(CLEAR,)] * 100), [[0]] * 100)


class Refusals(unittest.TestCase):
    def test_a_refusal_is_alone_and_changes_nothing(self):
        wrong = [(FILE, "holes 61"), (FILE, [104, 256]), (FILE, ""), (FILE, TWO + "\n"), (LOOK, [-1]),
                 (PUT, "field a asked 1"), (PUT, "code x holes 0 cost 0"), (PUT, "field c asked 1\nfield d asked 1"),
                 (PUT, "code z holes 0 cost 0 "), (PUT, [-1]), (PUT, ""), (DROP, 2), (DROP, 10), (DROP, -1),
                 (CHECK, [0]), (CHECK, [0, 1])]
        for call in wrong:
            with self.subTest(call=call):
                told = ask((FILE, TWO), call, (TEXT,), (LEAST,))
                self.assertEqual(len(told[1]), 1)
                self.assertLess(told[1][0], 0)
                self.assertEqual(told[2:], [text_bytes(TWO), [1, 10, 2, 1, 0]])

    def test_look_changes_nothing(self):
        for text in ["holes 7", "holes 61", TWO + "\nfield c asked 5"]:
            self.assertEqual(ask((FILE, TWO), (LOOK, text), (TEXT,))[2], text_bytes(TWO))

    def test_drop_range_first_then_the_field(self):
        for i, answer in [(-1, -3), (10, -3), (9223372036854775807, -3), (-9223372036854775808, -3), (9, -5), (2, -5)]:
            self.assertEqual(last((FILE, TWO), (DROP, i)), [answer])
        for i, answer in [(-1, -3), (10, -3), (0, -5), (9, -5)]:
            self.assertEqual(last((DROP, i)), [answer])


class Told(unittest.TestCase):
    def test_told_and_file(self):
        self.assertEqual(ask((FILE, TWO), (TOLD,)), [[3, 2], [3, 2, 2, 2, 1, 1]])
        self.assertEqual(ask((FILE, "holes 60"), (TOLD,)), [[60, 0], [60, 0]])
        self.assertEqual(last((FILE, "holes 0\nfield a asked 1000\nfield b asked 0"), (TOLD,)), [0, 2, 1000, 0, 0, 0])

    def test_file_takes_the_place_of_the_file_before(self):
        self.assertEqual(ask((FILE, TWO), (FILE, "holes 1\nfield a asked 3"), (TOLD,), (TEXT,)),
                         [[3, 2], [1, 1], [1, 1, 3, 0], text_bytes("holes 1\nfield a asked 3")])


if __name__ == "__main__":
    unittest.main()
