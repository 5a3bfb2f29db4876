"""Which codes stand, and with how many askings of their field; and which are idle."""

from notchplan.model import MOST_ASKED, CardFile, with_asked, without_field
from notchplan.planning import costs_with, curve


def costs_beside(file, i):
    """For each code of field i the least cost of the other fields, with the holes that it leaves; None if none fits."""
    others = curve(CardFile(file.holes, without_field(file.fields, i)))
    # Asked 0 times, the field itself costs nothing.
    return costs_with(with_asked(file.fields, i, 0)[i], others, file.holes)


def askings(file, i, c):
    """The least and the greatest number of askings of field i with which its code c stands; None if with none."""
    codes = file.fields[i].codes
    beside = costs_beside(file, i)
    if beside[c] is None:
        return None
    least = 0
    greatest = MOST_ASKED
    for code, cost in zip(codes, beside):
        if cost is not None:
            # The codes' costs are a straight line each over the askings. Code c is as cheap as this one just where
            # dearer times the askings is at most saved.
            dearer = codes[c].cost - code.cost
            saved = cost - beside[c]
            least = max(least, least_asked(dearer, saved))
            greatest = min(greatest, greatest_asked(dearer, saved))
    return [least, greatest] if least <= greatest else None


def least_asked(dearer, saved):
    """From how many askings on dearer times these is at most saved; more than there may be if that's never so."""
    if dearer < 0:
        # The division is of the numbers' opposites, so that it rounds up.
        return -(saved // -dearer)
    return 0 if saved >= 0 else MOST_ASKED + 1


def greatest_asked(dearer, saved):
    """Up to how many askings dearer times these is at most saved."""
    return saved // dearer if dearer > 0 else MOST_ASKED


def idle_codes(field):
    """The numbers of the field's idle codes, rising."""
    return [number for number in range(len(field.codes)) if is_idle(field.codes, number)]


def is_idle(codes, number):
    return any([outdoes(codes, other, number) for other in range(len(codes))])


def outdoes(codes, other, number):
    """Whether the other code makes the code of that number idle; no code does so itself."""
    better = codes[other]
    worse = codes[number]
    if better.holes > worse.holes or better.cost > worse.cost:
        return False
    return better.holes < worse.holes or better.cost < worse.cost or other < number
