"""Lines of words, read one word after another."""

from routeweb.errors import InvalidText


class LineReader:
    """One line of a text, of which the first word that cannot stand is told."""

    def __init__(self, line, text):
        self._line = line
        # Only the space parts words: any other blank belongs to a word, which cannot stand then.
        self._words = [word for word in text.split(" ") if word != ""]
        self._at = 0

    def take(self, wanted):
        """Which of the wanted words and numbers the next word is; it is read then."""
        for value in wanted:
            if self._at < len(self._words) and self._words[self._at] == str(value):
                self._at += 1
                return value
        raise InvalidText(self._line, self._at + 1)

    def finish(self):
        """Raise InvalidText if there is a further word."""
        if self._at < len(self._words):
            raise InvalidText(self._line, self._at + 1)
