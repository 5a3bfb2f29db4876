"""Bounds below which no plan that fits comes: by labels, and by a price for each hole."""

from notchplan.model import MOST_LABEL, MOST_PRICE
from notchplan.planning import last_row, least_of, row_ahead


def is_labels(file, labels):
    """Whether there are as many labels as the table has numbers, none of them too small or too great."""
    if len(labels) != (len(file.fields) + 1) * (file.holes + 1):
        return False
    return all([abs(label) <= MOST_LABEL for label in labels])


def label_rows(file, labels):
    """The labels, a list for each row."""
    width = file.holes + 1
    return [labels[number * width:number * width + width] for number in range(len(file.fields) + 1)]


def greatest_labels(file, rows):
    """The greatest labels that are accepted, by those of the next row each; None where each label is."""
    greatest = [row_ahead(field, behind) for field, behind in zip(file.fields, rows[1:])]
    return greatest + [last_row(file, 0)]


def first_wrong_label(file, rows):
    """The row and the number of holes of the first label that isn't as told; None if all are accepted."""
    for number, greatest in enumerate(greatest_labels(file, rows)):
        for holes, most in enumerate(greatest):
            if most is not None and rows[number][holes] > most:
                return [number, holes]
    return None


def bound(file, price):
    """The bound by the price; None if a field has no codes."""
    least = [least_priced(field, price) for field in file.fields]
    if None in least:
        return None
    return sum(least) - price * file.holes


def least_priced(field, price):
    """The least that a code of the field costs in all with its holes at the price; None if it has no codes."""
    return least_of([field.cost_in_all(code) + price * code.holes for code in field.codes])


def best_price(file):
    """The least of the prices of greatest bound. A plan is to fit."""
    # From one price to the next the bound rises by less and less, so once it doesn't rise it never does again. And
    # from MOST_PRICE on, a hole is worth all that a code costs: each field's least has its fewest holes, and since
    # a plan fits, these are together no more than the file's, so the bound doesn't rise.
    least = 0
    greatest = MOST_PRICE
    while least < greatest:
        middle = (least + greatest) // 2
        if bound(file, middle + 1) > bound(file, middle):
            least = middle + 1
        else:
            greatest = middle
    return least
