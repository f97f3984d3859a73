"""Lines of texts, taken sign by sign: words with one blank between them, numbers of one digit."""

DIGITS = {"0": 0, "1": 1, "2": 2, "3": 3, "4": 4, "5": 5, "6": 6, "7": 7, "8": 8, "9": 9}


def words_of(line):
    """The words of a line; a blank too many makes an empty word."""
    return line.split(" ")


def numbers_of(words):
    """The numbers that the words tell, None if one of them is not a single digit."""
    if not all(word in DIGITS for word in words):
        return None
    return [DIGITS[word] for word in words]
