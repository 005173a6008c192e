"""The lines of a text, read one behind the other."""

from truestandins.errors import BadText


class Lines:
    """A text and the number of the line that is to be read next."""

    def __init__(self, text):
        if not isinstance(text, str):
            raise BadText(-1)
        self.rows = text.split("\n")
        self.at = 0

    def words(self, depth):
        """The words of the next line, [] if there is none that stands so deep and is parted rightly.

        Lines that are amiss are seen as the end of what stands so deep: whoever
        needs a line, or the end of the text, in their place finds them bad.
        """
        margin = "  " * depth
        if self.at == len(self.rows) or not self.rows[self.at].startswith(margin):
            return []
        words = self.rows[self.at][len(margin):].split(" ")
        return [] if "" in words else words

    def begins(self, word):
        """Whether the next line is not indented and begins with this word."""
        return self.words(0)[:1] == [word]

    def below(self, depth):
        """The lines that belong to the next line, which stands so deep, without the blanks by which they are deeper."""
        margin = "  " * (depth + 1)
        rows = []
        for row in self.rows[self.at + 1:]:
            if not row.startswith(margin):
                break
            rows.append(row[len(margin):])
        return rows

    def read_below(self, depth, read):
        """Reads the text below the next line, which stands so deep, by a function, and steps behind it."""
        below = self.below(depth)
        try:
            found = read("\n".join(below))
        except BadText as fault:
            raise BadText(self.at + 1 + fault.value) from None
        self.at += 1 + len(below)
        return found

    def step(self):
        self.at += 1

    def need(self, right):
        """Raises BadText with the number of the next line unless right."""
        if not right:
            raise BadText(self.at)

    def need_end(self):
        self.need(self.at == len(self.rows))


def number(word, many):
    """The number from 0 to many - 1 that a word writes, -1 if it writes none; many is at most 1000."""
    if len(word) > 3 or not (word.isascii() and word.isdecimal()):
        return -1
    worth = int(word)
    return worth if str(worth) == word and worth < many else -1
