"""Words: names, tags, numbers and addresses (point 2.1)."""

SMALL_LETTERS = "abcdefghijklmnopqrstuvwxyz"
DIGITS = "0123456789"
NAME_MARKS = "abcdefghijklmnopqrstuvwxyz0123456789"
TAG_MARKS = "ABCDEFGHIJKLMNOPQRSTUVWXYZabcdefghijklmnopqrstuvwxyz0123456789"
LONGEST_WORD = 16
LONGEST_NUMBER = 9


def is_name(word):
    """Tell whether a word is a name."""
    return _consists_of(word, NAME_MARKS, LONGEST_WORD) and word[0] in SMALL_LETTERS


def is_tag(word):
    """Tell whether a word is a tag."""
    return _consists_of(word, TAG_MARKS, LONGEST_WORD)


def is_address(word):
    """Tell whether a word is an address."""
    return split_address(word) is not None


def read_number(word, most):
    """Return the number that a word writes, or None if it writes none up to `most`."""
    if not _consists_of(word, DIGITS, LONGEST_NUMBER):
        return None
    if word[0] == "0" and word != "0":
        return None
    number = int(word)
    return number if number <= most else None


def split_address(word):
    """Return the user and the host of an address, or None if the word is none."""
    parts = word.split("@")
    if len(parts) != 2:
        return None
    user, host = parts
    return (user, host) if is_name(user) and is_name(host) else None


def _consists_of(word, marks, longest):
    # The marks are compared one by one because isalnum() and its kin also take
    # characters that are not ASCII.
    return 1 <= len(word) <= longest and all([mark in marks for mark in word])
