"""Numbers as they are written in texts."""

_FIGURES = "0123456789"


def number_in(word, low, high):
    """The number that is so written, if it is one from low to high, else None."""
    # A longer word is none of these; Python would refuse to read very long ones.
    if len(word) > max(len(str(low)), len(str(high))):
        return None
    figures = word[1:] if word.startswith("-") else word
    if figures == "" or not all([figure in _FIGURES for figure in figures]):
        return None
    number = int(word)
    # Compared with its one right writing: a nought ahead and -0 are none.
    if str(number) != word or not low <= number <= high:
        return None
    return number
