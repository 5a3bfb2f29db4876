"""The words of a text, each with the place where it begins."""

LINE_END = "\n"
SIGNS = "\n 0123456789abcdefghijklmnopqrstuvwxyz"
OTHER_SIGN = "?"


class Word:
    """A word: how many bytes stand before it, and its signs."""

    def __init__(self, place, signs):
        self.place = place
        self.signs = signs


class Words:
    """The words of a text, taken one behind another."""

    def __init__(self, text):
        self.words = words_of(signs_of(text))
        self.length = len(text)
        self.taken = 0

    def ended(self):
        return self.taken == len(self.words)

    def ahead(self):
        """The signs of the word that is due. Where none is left that's an empty word, which can stand nowhere."""
        return "" if self.ended() else self.words[self.taken].signs

    def where(self):
        """How many bytes stand before the word that is due."""
        return self.length if self.ended() else self.words[self.taken].place

    def move_on(self):
        self.taken += 1


def signs_of(text):
    """The bytes as signs. Those that no right word has become one sign that no right word has."""
    known = {}
    for sign in SIGNS:
        known[ord(sign)] = sign
    return "".join([known.get(byte, OTHER_SIGN) for byte in text])


def words_of(signs):
    """All the words, the empty ones too."""
    words = []
    place = 0
    for number, line in enumerate(signs.split(LINE_END)):
        if number > 0:
            words.append(Word(place, LINE_END))
            place += 1
        words.extend(words_of_line(line, place))
        place += len(line)
    return words


def words_of_line(line, place):
    """The words between two line's ends, the first of which begins at the place."""
    words = []
    for signs in line.split(" "):
        words.append(Word(place, signs))
        place += len(signs) + 1
    return words
