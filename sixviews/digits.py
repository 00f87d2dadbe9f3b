"""Numbers in the texts that the program reads."""

_MOST_DIGITS = 400


def number_in(word):
    """The number that the word is, or None if the word is not written as a number must be."""
    figures = word.removeprefix("-")
    if not figures.isascii() or not figures.isdigit() or len(figures) > _MOST_DIGITS:
        return None
    if figures.startswith("0") and word != "0":
        return None
    return int(word)
