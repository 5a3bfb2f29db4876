"""A file read from its text, and one line of it read alone."""

from notchplan.model import (
    MOST_ASKED, MOST_CODES, MOST_COST, MOST_FIELDS, MOST_HOLES, MOST_LETTERS, CardFile, Code, Field, with_code,
    with_field)
from notchplan.refusals import Fault
from notchplan.words import LINE_END, Words


def read_file(text):
    """The file whose text it is."""
    words = Words(text)
    take_word(words, "holes")
    holes = take_number(words, MOST_HOLES)
    fields = []
    while not words.ended():
        take_word(words, LINE_END)
        fields = take_line(words, fields)
    return CardFile(holes, fields)


def read_line(text, fields):
    """The fields with what the one line tells behind them."""
    words = Words(text)
    more = take_line(words, fields)
    if not words.ended():
        raise Fault(words.where())
    return more


def take_line(words, fields):
    """The fields with what the line that is due tells behind them."""
    start = words.ahead()
    if start == "field" and len(fields) < MOST_FIELDS:
        words.move_on()
        return with_field(fields, take_field(words, fields))
    if start == "code" and len(fields) > 0 and len(fields[-1].codes) < MOST_CODES:
        words.move_on()
        return with_code(fields, take_code(words, fields[-1].codes))
    raise Fault(words.where())


def take_field(words, fields):
    """The field that is told behind the word field."""
    name = take_name(words, [field.name for field in fields])
    take_word(words, "asked")
    asked = take_number(words, MOST_ASKED)
    return Field(name, asked, [])


def take_code(words, codes):
    """The code that is told behind the word code."""
    name = take_name(words, [code.name for code in codes])
    take_word(words, "holes")
    holes = take_number(words, MOST_HOLES)
    take_word(words, "cost")
    cost = take_number(words, MOST_COST)
    return Code(name, holes, cost)


def take_word(words, signs):
    if words.ahead() != signs:
        raise Fault(words.where())
    words.move_on()


def take_name(words, taken):
    name = words.ahead()
    if not is_name(name) or name in taken:
        raise Fault(words.where())
    words.move_on()
    return name


def take_number(words, greatest):
    digits = words.ahead()
    if not is_number(digits, greatest):
        raise Fault(words.where())
    words.move_on()
    return int(digits)


def is_name(signs):
    # The signs of words are no other letters than a to z.
    return signs.isalpha() and len(signs) <= MOST_LETTERS


def is_number(signs, greatest):
    # The length is looked at ahead of the number, so that no long row of digits is ever made a number.
    if not signs.isdigit() or len(signs) > len(str(greatest)):
        return False
    if len(signs) > 1 and signs[0] == "0":
        return False
    return int(signs) <= greatest
