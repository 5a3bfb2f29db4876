"""put and drop: the file changed by one line, and by one field."""

import unittest

from helper import DROP, FILE, LEAST, LOOK, PUT, TEXT, TOLD, ask, last, text_bytes

THREE = ("holes 9\nfield a asked 1\ncode x holes 1 cost 1\nfield b asked 2\ncode x holes 2 cost 2\n"
         "code y holes 3 cost 1\nfield c asked 3")
# In each line the sign | stands at the place of the fault; it isn't one of the line's bytes.
FAULTS = [
    "|", "| ", "|\n", "|holes 5", "| field d asked 1", "field d asked 1 |", "field d asked 1|\n",
    "field d asked 1|\nfield e asked 1", "field d asked 1|\ncode z holes 1 cost 1", "|\nfield d asked 1", "field|",
    "field |a asked 1", "field d asked |1001", "field d asked |01", "field d | asked 1", "code z holes |61 cost 1",
    "code z holes 1 cost |1000001", "code z holes 1|", "code z holes 1 cost 1 |code", "code |abcdefghijklm holes 1 cost 1",
]


class Put(unittest.TestCase):
    def test_put_behind_a_file_of_text(self):
        self.assertEqual(ask((FILE, THREE), (PUT, "code x holes 0 cost 7"), (PUT, "field d asked 5"), (TEXT,)),
                         [[9, 3], [3, 1], [4, 0], text_bytes(THREE + "\ncode x holes 0 cost 7\nfield d asked 5")])

    def test_put_alone(self):
        self.assertEqual(ask((PUT, "field a asked 1000"), (PUT, "code a holes 60 cost 1000000"), (TEXT,)),
                         [[1, 0], [1, 1], text_bytes("holes 0\nfield a asked 1000\ncode a holes 60 cost 1000000")])

    def test_put_line_by_line_is_the_file(self):
        lines = THREE.split("\n")
        told = ask((FILE, lines[0]), *[(PUT, line) for line in lines[1:]], (TEXT,), (LEAST,))
        self.assertEqual(told[1:7], [[1, 0], [1, 1], [2, 0], [2, 1], [2, 2], [3, 0]])
        self.assertEqual(told[7:], ask((FILE, THREE), (TEXT,), (LEAST,))[1:])

    def test_the_place_is_the_lines_own(self):
        for marked in FAULTS:
            with self.subTest(line=marked):
                line, place = marked.replace("|", ""), marked.index("|")
                self.assertEqual(ask((FILE, THREE), (PUT, line), (TEXT,))[1:], [[-1000 - place], text_bytes(THREE)])

    def test_look_at_the_whole_text_tells_the_same_place(self):
        # A line's end may stand behind a whole line of a file's text, but not behind the line that is put.
        for marked in [line for line in FAULTS if "asked 1|\n" not in line]:
            with self.subTest(line=marked):
                line, place = marked.replace("|", ""), marked.index("|")
                self.assertEqual(ask((LOOK, THREE + "\n" + line)), [[1, len(THREE) + 1 + place]])

    def test_a_codes_name_is_free_in_another_field(self):
        self.assertEqual(last((FILE, THREE), (PUT, "code x holes 1 cost 1")), [3, 1])
        self.assertEqual(last((FILE, THREE), (DROP, 2), (PUT, "code x holes 1 cost 1")), [-1005])

    def test_code_ahead_of_all_fields(self):
        self.assertEqual(last((PUT, "code a holes 1 cost 1")), [-1000])
        self.assertEqual(last((FILE, "holes 5"), (PUT, "code a holes 1 cost 1")), [-1000])
        self.assertEqual(last((PUT, "field a asked 1"), (DROP, 0), (PUT, "code a holes 1 cost 1")), [-1000])

    def test_the_eleventh_field_and_the_ninth_code(self):
        fields = [(PUT, f"field {letter} asked 1") for letter in "abcdefghij"]
        codes = [(PUT, f"code {letter} holes 1 cost 1") for letter in "abcdefgh"]
        told = ask(*fields, (PUT, "field k asked 1"), *codes, (PUT, "code i holes 1 cost 1"), (TOLD,))
        self.assertEqual(told[:10], [[number, 0] for number in range(1, 11)])
        self.assertEqual(told[10], [-1000])
        self.assertEqual(told[11:19], [[10, number] for number in range(1, 9)])
        self.assertEqual(told[19:], [[-1000], [0, 10] + [1, 0] * 9 + [1, 8]])

    def test_look_is_of_a_files_text_not_of_a_line(self):
        self.assertEqual(last((FILE, THREE), (LOOK, "field d asked 1")), [1, 0])


class Drop(unittest.TestCase):
    def test_the_field_goes_with_its_codes_and_those_behind_move_up(self):
        self.assertEqual(ask((FILE, THREE), (DROP, 1), (TOLD,), (TEXT,))[1:],
                         [[2], [9, 2, 1, 1, 3, 0],
                          text_bytes("holes 9\nfield a asked 1\ncode x holes 1 cost 1\nfield c asked 3")])
        self.assertEqual(ask((FILE, THREE), (DROP, 0), (DROP, 0), (DROP, 1), (DROP, 0), (DROP, 0), (TOLD,))[1:],
                         [[2], [1], [-5], [0], [-5], [9, 0]])

    def test_a_name_left_out_is_free_again(self):
        self.assertEqual(ask((FILE, THREE), (PUT, "field b asked 4"), (DROP, 1), (PUT, "field b asked 4"), (TEXT,))[1:],
                         [[-1006], [2], [3, 0], text_bytes("holes 9\nfield a asked 1\ncode x holes 1 cost 1\n"
                                                           "field c asked 3\nfield b asked 4")])

    def test_code_is_put_to_the_field_that_is_last_then(self):
        self.assertEqual(ask((FILE, THREE), (DROP, 2), (PUT, "code z holes 1 cost 1"), (TOLD,))[2:],
                         [[2, 3], [9, 2, 1, 1, 2, 3]])

    def test_the_tenth_field_may_come_again(self):
        fields = [(PUT, f"field {letter} asked 1") for letter in "abcdefghij"]
        self.assertEqual(ask(*fields, (DROP, 9), (PUT, "field k asked 1"), (DROP, 10), (DROP, 9))[10:],
                         [[9], [10, 0], [-3], [9]])


if __name__ == "__main__":
    unittest.main()
