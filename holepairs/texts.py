"""Texts: shapes written, a line for each piece, and read again."""

from holepairs.errors import BadText
from holepairs.shapes import Shape

FIGURES = "0123456789"
# The largest corner has so many.
MOST_FIGURES = 61


def written(shape):
    """Give the text of a shape."""
    lines = [" ".join([str(corner) for corner in piece]) for piece in shape.pieces()]
    return "\n".join(lines)


def read(text):
    """Give the shape that a text writes."""
    # Every line is read ahead of the first piece: a bad line is told before a bad piece.
    return Shape([tuple([int(word) for word in words]) for words in words_by_line(text)])


def words_by_line(text):
    """List for each line of a text the words in which it writes its numbers."""
    if type(text) is not str:
        raise BadText(1)
    if text == "":
        return []
    told = [line.split(" ") for line in text.split("\n")]
    for at, words in enumerate(told):
        if not all([is_number_word(word) for word in words]):
            raise BadText(at + 1)
    return told


def is_number_word(word):
    """Tell of a word whether it writes a number as `written` does."""
    if not 1 <= len(word) <= MOST_FIGURES:
        return False
    if word[0] == "0" and word != "0":
        return False
    return all([sign in FIGURES for sign in word])
