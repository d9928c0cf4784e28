"""Texts: how numbers, STANDS, ROWS and FRACTIONS are written and read."""

from math import gcd

from lentblocks.errors import BadText

EMPTY = "-"
BETWEEN = "; "


def _joined(sign, pieces):
    """The pieces with the sign between them, - if there are none."""
    return sign.join(pieces) if len(pieces) > 0 else EMPTY


def words_text(words):
    """The words with single blanks between them, - if there are none."""
    return _joined(" ", words)


def numbers_text(numbers):
    """The numbers as they are written."""
    return words_text([str(number) for number in numbers])


def stand_text(stand):
    """The BLOCKS as they are written."""
    return _joined(BETWEEN, [f"{first} {size}" for first, size in stand])


def row_text(row):
    """The DEEDS as they are written."""
    return _joined(BETWEEN, [f"{word} {number}" for word, number in row])


def fraction_text(part):
    """The FRACTION as it is written."""
    top, bottom = part
    return str(top) if bottom == 1 else f"{top}/{bottom}"


def number_in(word):
    """The number from 0 that is so written; None if none is."""
    # Other signs than 0 to 9 may be digits, too.
    if not word.isascii() or not word.isdigit() or (word[0] == "0" and word != "0"):
        return None
    return int(word)


def numbers_in(words):
    """The numbers that the words are; None if one of them is none."""
    numbers = tuple([number_in(word) for word in words])
    return None if None in numbers else numbers


def _block_in(piece):
    """The BLOCK that is so written; None if none is."""
    numbers = numbers_in(piece.split(" "))
    if numbers is None or len(numbers) != 2 or numbers[1] == 0:
        return None
    return numbers


def _deed_in(piece):
    """The DEED that is so written; None if none is."""
    word, _, rest = piece.partition(" ")
    number = number_in(rest)
    if word not in ("ask", "back") or number is None or (word == "ask" and number == 0):
        return None
    return (word, number)


def _fraction_in(piece):
    """The FRACTION that is so written; None if none is."""
    numbers = numbers_in(piece.split("/"))
    if numbers is None or len(numbers) > 2:
        return None
    if len(numbers) == 1:
        return (numbers[0], 1)
    # Of the bottoms that are told only 0 and 1 are wrong by themselves.
    if numbers[1] < 2 or gcd(numbers[0], numbers[1]) != 1:
        return None
    return numbers


def _pieces(sign, text):
    """The pieces of a text that is cut at each such sign."""
    return [] if text == EMPTY else text.split(sign)


def _all_read(read, pieces):
    """What read tells for each of the pieces; raises BadText for the first that is wrong."""
    told = []
    for number, piece in enumerate(pieces):
        value = read(piece)
        if value is None:
            raise BadText(number)
        told.append(value)
    return tuple(told)


def numbers_from(text):
    """The numbers that are so written."""
    return _all_read(number_in, _pieces(" ", text))


def stand_from(text):
    """The BLOCKS that are so written, ascending."""
    blocks = []
    for number, piece in enumerate(_pieces(BETWEEN, text)):
        block = _block_in(piece)
        if block is None or (number > 0 and block[0] <= blocks[-1][0]):
            raise BadText(number)
        blocks.append(block)
    return tuple(blocks)


def row_from(text):
    """The DEEDS that are so written."""
    return _all_read(_deed_in, _pieces(BETWEEN, text))


def fraction_from(text):
    """The FRACTION that is so written."""
    return _all_read(_fraction_in, [text])[0]
