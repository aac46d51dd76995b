"""Names, and the words and numbers of which the lines of a text consist."""

LETTERS = "abcdefghijklmnopqrstuvwxyz"
DIGITS = "0123456789"
MOST_DIGITS = 3
NO_NUMBER = -1


def only_digits(word):
    return all([sign in DIGITS for sign in word])


def is_name(word):
    """Whether something is a lower-case letter and zero to three digits."""
    if not isinstance(word, str) or not 1 <= len(word) <= 1 + MOST_DIGITS:
        return False
    return word[0] in LETTERS and only_digits(word[1:])


def number_of(word):
    """The number that a word writes, or NO_NUMBER, which is below every bound, if it writes none."""
    if not 1 <= len(word) <= MOST_DIGITS or not only_digits(word):
        return NO_NUMBER
    if word[0] == "0" and len(word) > 1:
        return NO_NUMBER
    return int(word)


def words_of(line):
    """The words of a line; none if the line is empty or has a space too many."""
    words = line.split(" ")
    if "" in words:
        return []
    return words
