"""Numbers and reckonings as words, and the words of a row read as them."""

from viewwood.errors import NoText
from viewwood.plain import is_name, is_number
from viewwood.words import JOINING, NAMING

FIGURES = "0123456789"

# The figures of 10 ** 9: what has more is no number, however many they are.
MOST_FIGURES = 10


def shown_key(key):
    """The words of a line's key, as one text."""
    return "-" if key is None else shown_reckoning(key)


def shown_reckoning(reckoning):
    """The words of a reckoning, as one text."""
    words = []
    waiting = [reckoning]
    while waiting:
        inner = waiting.pop()
        if inner[0] == "num":
            words.append(str(inner[1]))
        elif inner[0] in NAMING:
            words.extend(inner)
        else:
            words.append(inner[0])
            waiting.extend(list(reversed(inner[1:])))
    return " ".join(words)


def number_shown(word):
    """The number that a word shows, or None where it shows none."""
    figures = word[1:] if word.startswith("-") else word
    if not 1 <= len(figures) <= MOST_FIGURES or not all([sign in FIGURES for sign in figures]):
        return None
    number = int(word)
    # Each number is written in one way alone: no 0 ahead, no -0.
    return number if is_number(number) and str(number) == word else None


class RowReader:
    """Reads the words of a row, one behind the other; the first that is not as told is refused."""

    def __init__(self, row, line):
        self.words = row.split(" ")
        self.line = line
        self.taken = 0

    def next_word(self):
        """The next word of the row."""
        if self.taken == len(self.words):
            raise NoText(self.line, self.taken)
        self.taken += 1
        return self.words[self.taken - 1]

    def refuse(self):
        """Refuses the word that was read last."""
        raise NoText(self.line, self.taken - 1)

    def finish(self):
        """Refuses what stands behind the words that were read."""
        if self.taken < len(self.words):
            raise NoText(self.line, self.taken)

    def one_of(self, words):
        """The next word, which has to be one of these."""
        word = self.next_word()
        if word not in words:
            self.refuse()
        return word

    def name(self):
        """The name that the next word is."""
        word = self.next_word()
        if not is_name(word):
            self.refuse()
        return word

    def number(self):
        """The number that the next word shows."""
        number = number_shown(self.next_word())
        if number is None:
            self.refuse()
        return number

    def key(self):
        """The key, a reckoning or None, that the next words show."""
        if self.words[self.taken:self.taken + 1] == ["-"]:
            self.taken += 1
            return None
        return self.reckoning()

    def reckoning(self):
        """The reckoning that the next words show."""
        # Without recursion: a row may tell a hundred reckonings within one another.
        items = []
        lacking = 1
        while lacking > 0:
            item = self.item()
            items.append(item)
            lacking += JOINING.get(item, 0) - 1
        return joined_items(items)

    def item(self):
        """The next word where it joins reckonings, else the reckoning that stands alone there."""
        word = self.next_word()
        if word in JOINING:
            return word
        if word in NAMING:
            return (word, self.name())
        number = number_shown(word)
        if number is None:
            self.refuse()
        return ("num", number)


def joined_items(items):
    """The reckoning of items, each one a reckoning or a word that joins those behind it."""
    made = []
    for item in reversed(items):
        if item in JOINING:
            inner = [made.pop() for place in range(JOINING[item])]
            made.append(tuple([item] + inner))
        else:
            made.append(item)
    return made[0]
