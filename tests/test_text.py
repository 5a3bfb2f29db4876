"""A file's text: where its faults are, its limits, and that text gives back what file takes."""

import unittest

from helper import FILE, LOOK, PUT, TEXT, TOLD, ask, last, small_files, text_bytes

TEN_FIELDS = "holes 1" + "".join(f"\nfield {letter} asked 1" for letter in "abcdefghij")
EIGHT_CODES = "field a asked 1" + "".join(f"\ncode {letter} holes 1 cost 1" for letter in "abcdefgh")
FIELD = "holes 5\nfield a asked 3\n"
CODE = FIELD + "code a holes 1 cost 2\n"

# In each text the sign | stands at the place of the fault; it isn't one of the text's bytes.
FAULTS = [
    # words are missing
    "|", "holes|", "holes 5\nfield|", "holes 5\nfield a|", "holes 5\nfield a asked|",
    FIELD + "code|", FIELD + "code a|", FIELD + "code a holes|", FIELD + "code a holes 1|",
    FIELD + "code a holes 1 cost|",
    # empty words at the beginning
    "| holes 5", "|\nholes 5", "| ", "|\n", "|  ", "|\n\n",
    # empty words within
    "holes | 5", "holes 5 |\nfield a asked 3", "holes 5\n| field a asked 3", "holes 5\n|\nfield a asked 3",
    "holes 5\nfield | a asked 3", "holes 5\nfield a | asked 3", "holes 5\nfield a asked | 3",
    FIELD + "code a holes 1 cost | 2", FIELD + "|\ncode a holes 1 cost 2",
    # empty words at the end
    "holes |", "holes 5 |", "holes 5\n|", "holes 5 | ", "holes 5\n|\n", "holes 5 |\n", FIELD + "|", CODE + "|",
    FIELD + "code a holes 1 cost |", FIELD + "code a holes 1 cost 2 |",
    # a line's end, or another line's word, where a word of the line is due
    "holes|\n5", "holes 5\nfield|\na asked 3", "holes 5\nfield a asked|\n3", "holes 5 |field a asked 3",
    "holes 5\nfield a asked 3 |code a holes 1 cost 2", "holes 5\n|holes 5",
    # words that are not those told
    "|hole 5", "|Holes 5", "|holes5", "|holes\t5", "|holes\r\n5", "|\xff", "|field a asked 3", "|code a holes 1 cost 2",
    "holes 5\n|fields a asked 3", "holes 5\n|asked 3", "holes 5\nfield a |ask 3",
    FIELD + "code a |hole 1 cost 2", FIELD + "code a |cost 1 holes 2", FIELD + "code a holes 1 |costs 2",
    # numbers
    "holes |05", "holes |00", "holes |-1", "holes |+5", "holes |5.", "holes |5a", "holes |a", "holes |61",
    "holes |100", "holes |" + "9" * 1900, "holes |" + "0" * 1900, "holes |\xb2", "holes |\xb9",
    "holes 5\nfield a asked |1001", "holes 5\nfield a asked |03", "holes 5\nfield a asked |-1",
    FIELD + "code a holes |61 cost 2", FIELD + "code a holes |01 cost 2", FIELD + "code a holes 1 cost |1000001",
    FIELD + "code a holes 1 cost |02", FIELD + "code a holes 1 cost |x",
    # names
    "holes 5\nfield |abcdefghijklm asked 3", "holes 5\nfield |A asked 3", "holes 5\nfield |a1 asked 3",
    "holes 5\nfield |a_b asked 3", "holes 5\nfield |\xe9 asked 3", "holes 5\nfield |7 asked 3",
    "holes 5\nfield |a\x00 asked 3", "holes 5\nfield |` asked 3", "holes 5\nfield |{ asked 3",
    FIELD + "code |abcdefghijklm holes 1 cost 2", FIELD + "code |a- holes 1 cost 2", FIELD + "code |\xfd holes 1 cost 2",
    FIELD + "field |a asked 3", FIELD + "field b asked 1\nfield |a asked 3", CODE + "code |a holes 1 cost 2",
    # too many
    TEN_FIELDS + "\n|field k asked 1", TEN_FIELDS + "\n|field a asked 1",
    "holes 1\n" + EIGHT_CODES + "\n|code i holes 1 cost 1", "holes 1\n" + EIGHT_CODES + "\n|code",
    # code ahead of all fields
    "holes 5\n|code a holes 1 cost 2",
    # the first of several faults
    "holes |x\nfield A asked 3", CODE + "code |a holes 99 cost x",
]

RIGHT = [
    "holes 0", "holes 60", TEN_FIELDS, "holes 1\n" + EIGHT_CODES, TEN_FIELDS + "\n" + "code a holes 0 cost 0",
    "holes 5\nfield abcdefghijkl asked 1000\ncode abcdefghijkl holes 60 cost 1000000",
    "holes 5\nfield a asked 0\ncode a holes 0 cost 0",
    "holes 5\nfield a asked 1\ncode x holes 1 cost 1\nfield x asked 1\ncode x holes 1 cost 1\ncode a holes 1 cost 1",
    "holes 5\nfield field asked 1\ncode code holes 1 cost 1\nfield code asked 1\nfield holes asked 10",
    "holes 5\nfield az asked 100\ncode za holes 10 cost 10",
]


def unmarked(text):
    return text.replace("|", ""), text.index("|")


class Faults(unittest.TestCase):
    def test_file_tells_the_place(self):
        for marked in FAULTS:
            text, place = unmarked(marked)
            with self.subTest(text=marked):
                self.assertEqual(ask((FILE, text)), [[-1000 - place]])

    def test_look_tells_the_place(self):
        for marked in FAULTS:
            text, place = unmarked(marked)
            with self.subTest(text=marked):
                self.assertEqual(ask((LOOK, text)), [[1, place]])

    def test_look_finds_none_where_the_text_is_right(self):
        for text in RIGHT:
            with self.subTest(text=text):
                self.assertEqual(ask((LOOK, text)), [[0]])

    def test_every_shortened_text_is_right_or_has_its_fault(self):
        text = "holes 12\nfield a asked 30\ncode b holes 1 cost 20"
        right = ["holes 1", "holes 12", "holes 12\nfield a asked 3", "holes 12\nfield a asked 30",
                 "holes 12\nfield a asked 30\ncode b holes 1 cost 2", text]
        for length in range(len(text) + 1):
            told = last((LOOK, text[:length]))
            self.assertEqual(told == [0], text[:length] in right)

    def test_every_byte_that_is_no_letter_in_a_name(self):
        for byte in range(256):
            name = [109, byte]
            text = list(b"holes 5\nfield ") + name + list(b" asked 3")
            if 97 <= byte <= 122:
                self.assertEqual(ask((LOOK, text)), [[0]])
            elif byte == 32:
                self.assertEqual(ask((LOOK, text)), [[1, 16]])
            elif byte == 10:
                self.assertEqual(ask((LOOK, text)), [[1, 15]])
            else:
                self.assertEqual(ask((LOOK, text)), [[1, 14]])


class NotBytes(unittest.TestCase):
    def test_no_byte_comes_ahead_of_any_fault(self):
        for number in [-1, 256, 9223372036854775807, -9223372036854775808]:
            for call in (FILE, LOOK, PUT):
                for text in [[number], list(b"x") + [number], list(b"holes 5\n") + [number], [number] + list(b" ")]:
                    with self.subTest(call=call, text=text):
                        self.assertEqual(ask((call, text)), [[-1]])

    def test_the_greatest_byte_is_one(self):
        for call, answer in [(FILE, [-1000]), (LOOK, [1, 0]), (PUT, [-1000])]:
            self.assertEqual(ask((call, [255])), [answer])
            self.assertEqual(ask((call, [0])), [answer])


class ThereAndBack(unittest.TestCase):
    def test_text_gives_back_what_file_took(self):
        for text in RIGHT + [small.text() for small in small_files(40)]:
            with self.subTest(text=text):
                told = ask((FILE, text), (TEXT,), (TOLD,))
                self.assertEqual(told[1], text_bytes(text))
                again = ask((FILE, told[1][1:]), (TEXT,), (TOLD,))
                self.assertEqual(again, told)

    def test_file_answers_its_holes_and_fields(self):
        self.assertEqual(ask((FILE, "holes 0")), [[0, 0]])
        self.assertEqual(ask((FILE, TEN_FIELDS)), [[1, 10]])


if __name__ == "__main__":
    unittest.main()
