"""Whole numbers, names and words, and which of them something is."""

DEEDS = ("plus", "less", "times", "over")
LONGEST = 61


def is_whole(thing):
    """Tell whether thing is a whole number: True and False are none."""
    return isinstance(thing, int) and not isinstance(thing, bool)


def is_among(thing, least, most):
    """Tell whether thing is a whole number from least to most."""
    return is_whole(thing) and least <= thing <= most


def is_name(thing):
    """Tell whether thing is a NAME: one to six small letters."""
    if not isinstance(thing, str):
        return False
    return 1 <= len(thing) <= 6 and all("a" <= sign <= "z" for sign in thing)


def is_deed(thing):
    """Tell whether thing is the word of one of the four deeds."""
    return isinstance(thing, str) and thing in DEEDS


def _are_figures(word):
    """Tell whether a text is the figures of a number, nought or above: none ahead in vain, not too many."""
    if not 1 <= len(word) <= LONGEST:
        return False
    if word[0] == "0" and len(word) > 1:
        return False
    return all("0" <= sign <= "9" for sign in word)


def number_in(word):
    """Tell the whole number that a text's figures write, None of all else."""
    if not isinstance(word, str):
        return None
    if word[:1] == "-":
        rest = word[1:]
        return -int(rest) if _are_figures(rest) and rest != "0" else None
    return int(word) if _are_figures(word) else None


def words_of(row):
    """List the words of a text of one row, one blank between each two, None of all else."""
    if not isinstance(row, str) or "\n" in row:
        return None
    if row == "":
        return []
    words = row.split(" ")
    return None if "" in words else words
