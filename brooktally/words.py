"""Whole numbers, names, times and amounts, how a number is written and read, and lines of words."""

LETTERS = "abcdefghijklmnopqrstuvwxyz"
FIGURES = "0123456789"
MOST_LETTERS = 12
MOST_SIGNS = 60
MOST_TIME = 1000000000
MOST_AMOUNT = 1000000000


def is_whole(thing):
    # Python counts True and False among its whole numbers.
    return isinstance(thing, int) and not isinstance(thing, bool)


def is_among(thing, least, most):
    return is_whole(thing) and least <= thing <= most


def is_time(thing):
    return is_among(thing, 0, MOST_TIME)


def is_amount(thing):
    return is_among(thing, -MOST_AMOUNT, MOST_AMOUNT)


def is_made_of(text, signs):
    return all([sign in signs for sign in text])


def is_name(thing):
    return isinstance(thing, str) and 1 <= len(thing) <= MOST_LETTERS and is_made_of(thing, LETTERS)


def figures_of(number):
    # Python refuses to write a number of some thousand figures at once, so it is written piece by piece.
    great = 10 ** 60
    pieces = []
    while number >= great:
        pieces.append(str(number % great).zfill(60))
        number = number // great
    pieces.append(str(number))
    return "".join(reversed(pieces))


def number_text(number):
    if number < 0:
        return "-" + figures_of(-number)
    return figures_of(number)


def line_of(parts):
    return " ".join([part if isinstance(part, str) else number_text(part) for part in parts])


def number_of(word):
    if len(word) > MOST_SIGNS:
        return None
    figures = word[1:] if word.startswith("-") else word
    # int takes blanks, a plus, underscores and noughts ahead, too, which write no number here.
    if figures == "" or not is_made_of(figures, FIGURES):
        return None
    if figures.startswith("0") and word != "0":
        return None
    return int(word)
