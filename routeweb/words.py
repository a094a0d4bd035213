"""Lines of words, read one word after another."""

from routeweb.checks import check_text
from routeweb.errors import InvalidText, TooMany


def lines_of(text):
    """The list of the lines of a text, none for the empty text."""
    check_text(text)
    return text.split("\n") if text != "" else []


def few_lines_of(text, most):
    """The list of the lines of a text of at most so many."""
    lines = lines_of(text)
    if len(lines) > most:
        raise TooMany(most)
    return lines


class LineReader:
    """One line of a text, of which the first word that cannot stand is told."""

    def __init__(self, line, text):
        self._line = line
        # Only the space parts words: any other blank belongs to a word, which cannot stand then.
        self._words = [word for word in text.split(" ") if word != ""]
        self._at = 0

    def take(self, wanted):
        """Which of the wanted words and numbers the next word is; it is read then."""
        for value in wanted:
            if not self.is_done() and self.next_word() == str(value):
                self._at += 1
                return value
        raise InvalidText(self._line, self._at + 1)

    def is_done(self):
        """Whether all words are read."""
        return self._at == len(self._words)

    def next_word(self):
        """The word that is to be read next, where there is one."""
        return self._words[self._at]

    def finish(self):
        """Raise InvalidText if there is a further word."""
        if not self.is_done():
            raise InvalidText(self._line, self._at + 1)
