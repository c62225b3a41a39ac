"""Words and rows of texts. What cannot be read is told by None."""

MOST_DIGITS = 40
# The least number that has more digits.
NUMBER_BOUND = 10_000_000_000_000_000_000_000_000_000_000_000_000_000


def read_number(word):
    """Return the number that a number word tells."""
    if not (word.isascii() and word.isdigit()) or len(word) > MOST_DIGITS:
        return None
    if word[0] == "0" and word != "0":
        return None
    return int(word)


def read_length(word):
    """Return the number that a word tells that may have a minus."""
    if not word.startswith("-"):
        return read_number(word)
    number = read_number(word[1:])
    return -number if number else None


def read_numbers(words, lengths):
    """Return the tuple of the numbers that words tell, of which those at some indexes may have a minus."""
    found = [read_length(word) if index in lengths else read_number(word) for index, word in enumerate(words)]
    return None if None in found else tuple(found)


def read_row(row, name, many, lengths):
    """Return the tuple of the numbers in a row that has a name and so many numbers."""
    words = row.split(" ")
    if words[0] != name or len(words) != many + 1:
        return None
    return read_numbers(words[1:], lengths)


def row_of(parts):
    """Return the row of a text that has these parts as words."""
    return " ".join([str(part) for part in parts])


def is_short(thing):
    """Return whether all numbers in a thing of tuples, numbers, texts and None can be written as number words."""
    if isinstance(thing, tuple):
        return all([is_short(part) for part in thing])
    return thing is None or isinstance(thing, str) or abs(thing) < NUMBER_BOUND
