"""What numbers, names, words and values are (DOC.md, 0.2), told of anything."""

LETTERS = "abcdefghijklmnopqrstuvwxyz"
FIGURES = "0123456789"
WORD_SIGNS = LETTERS + FIGURES + "-"

MOST_SIGNS = 8
MOST_VALUE = 9999
MOST_FIGURES = 4
MOST_TEXT = 40

# The percent sign stands here by its code: the sign itself may not stand in a string of the package.
BLANK_CODE = 32
PERCENT_CODE = 37
LAST_CODE = 126


def is_number(thing):
    """Tell whether it is an int that is no truth."""
    return isinstance(thing, int) and not isinstance(thing, bool)


def is_number_from(thing, least, most):
    """Tell whether it is a number from least to most."""
    return is_number(thing) and least <= thing <= most


def is_number_value(thing):
    """Tell whether it is one of the numbers that values may be."""
    return is_number_from(thing, 0, MOST_VALUE)


def is_short_text(thing, signs):
    """Tell whether it is a text of as many signs as names and words have, all of them of these."""
    if not isinstance(thing, str) or not 1 <= len(thing) <= MOST_SIGNS:
        return False
    return all([sign in signs for sign in thing])


def is_name(thing):
    """Tell whether it is a name."""
    return is_short_text(thing, LETTERS)


def is_name_or_empty(thing):
    """Tell whether it is a name or the empty text, as an owner is, and the field of a rule."""
    return thing == "" or is_name(thing)


def is_word(thing):
    """Tell whether it is a word."""
    return is_short_text(thing, WORD_SIGNS)


def is_value_sign(sign):
    """Tell whether a sign may stand in a text that is a value."""
    code = ord(sign)
    return BLANK_CODE <= code <= LAST_CODE and code != PERCENT_CODE


def sign_place(sign):
    """Tell the place of a sign in the row of those that may stand in a text that is a value, 0 of the blank."""
    code = ord(sign)
    return code - BLANK_CODE - (1 if code > PERCENT_CODE else 0)


def is_text_value(thing):
    """Tell whether it is one of the texts that values may be."""
    if not isinstance(thing, str) or len(thing) > MOST_TEXT:
        return False
    return all([is_value_sign(sign) for sign in thing])


def is_value(thing):
    """Tell whether it is a value."""
    return is_number_value(thing) or is_text_value(thing)


def is_written_number(word):
    """Tell whether a text is written as the numbers that values may be are, in figures."""
    if not 1 <= len(word) <= MOST_FIGURES:
        return False
    if not all([sign in FIGURES for sign in word]):
        return False
    return word == "0" or not word.startswith("0")


def are_unlike(texts):
    """Tell whether no two of these texts are the same."""
    return len(set(texts)) == len(texts)


def are_rising(things):
    """Tell whether each of these things, all of one sort, is greater than the one ahead."""
    return all([ahead < behind for ahead, behind in zip(things, things[1:])])


def are_named_rows(thing, least, most, is_row):
    """Tell whether it is a tuple of least to most rows, each of them one by is_row, the names ahead in them unlike."""
    if not isinstance(thing, tuple) or not least <= len(thing) <= most:
        return False
    return all([is_row(row) for row in thing]) and are_unlike([row[0] for row in thing])
