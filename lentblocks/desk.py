"""A desk: requests for a board of POOLS, the lines of a text, and their answers."""

from lentblocks.board import Board
from lentblocks.bound import least_pool
from lentblocks.chains import is_chain
from lentblocks.errors import BadLine, Known, NoNumber, NoPool, NoSize, NothingDone
from lentblocks.moving import fewest_moved, fits
from lentblocks.rules import WORDS, place_by
from lentblocks.texts import number_in, numbers_in, stand_text, words_text

LETTERS = "abcdefghijklmnopqrstuvwxyz"
LONGEST_NAME = 8
DONE = "done"

# For each request the parts behind its word. The last one may have several words.
PARTS = {
    "pool": ("name", "number", "chain"),
    "drop": ("name",),
    "rename": ("name", "name"),
    "undo": (),
    "ask": ("name", "number"),
    "give": ("name", "number"),
    "names": (),
    "stand": ("name",),
    "live": ("name",),
    "place": ("name", "number"),
    "open": ("number",),
    "by": ("name", "word", "number"),
    "fits": ("name", "numbers"),
    "moved": ("name", "numbers"),
    "need": ("name", "number"),
}


def _name_in(text):
    """The NAME that is so written; None if none is."""
    if not 1 <= len(text) <= LONGEST_NAME or not all([sign in LETTERS for sign in text]):
        return None
    return text


def _part_in(kind, text):
    """What is so written, if it is of this kind; None if not."""
    if kind == "name":
        return _name_in(text)
    if kind == "word":
        return text if text in WORDS else None
    if kind == "number":
        return number_in(text)
    numbers = numbers_in(text.split(" "))
    return numbers if kind == "numbers" or is_chain(numbers) else None


def _request_in(line):
    """The word of the request that is so written, and its parts; None if none is."""
    word = line.split(" ")[0]
    if word not in PARTS:
        return None
    kinds = PARTS[word]
    texts = line.split(" ", len(kinds))
    # Nothing is cut off from a line whose request has no parts.
    if texts[0] != word or len(texts) != len(kinds) + 1:
        return None
    parts = [_part_in(kind, text) for kind, text in zip(kinds, texts[1:])]
    if None in parts or (word == "pool" and parts[1] % parts[2][-1] != 0):
        return None
    return (word, parts)


def _put(board, name, cells, chain):
    """pool NAME CELLS CHAIN"""
    board.put(name, chain, cells)
    return DONE


def _drop(board, name):
    """drop NAME"""
    board.drop(name)
    return DONE


def _rename(board, name, new):
    """rename NAME TO"""
    board.rename(name, new)
    return DONE


def _undo(board):
    """undo"""
    board.undo()
    return DONE


def _ask(board, name, size):
    """ask NAME SIZE"""
    return board.ask(name, size)


def _give(board, name, first):
    """give NAME FIRST"""
    board.give(name, first)
    return DONE


def _names(board):
    """names"""
    return words_text(board.names)


def _stand(board, name):
    """stand NAME"""
    _, _, stand = board[name]
    return stand_text(stand)


def _live(board, name):
    """live NAME"""
    return board.live(name)


def _place(board, name, size):
    """place NAME SIZE"""
    return board.place(name, size)


def _open_for(board, size):
    """open SIZE"""
    return words_text(board.open_for(size))


def _place_by(board, name, word, size):
    """by NAME WORD SIZE"""
    chain, pool, stand = board[name]
    return place_by(word, chain, pool, stand, size)


def _fits(board, name, sizes):
    """fits NAME SIZES"""
    chain, pool, stand = board[name]
    return "yes" if fits(chain, pool, stand, sizes) else "no"


def _moved(board, name, sizes):
    """moved NAME SIZES"""
    chain, pool, stand = board[name]
    return fewest_moved(chain, pool, stand, sizes)


def _need(board, name, budget):
    """need NAME BUDGET"""
    chain, _, _ = board[name]
    return least_pool(chain, budget)


# What does each request.
DOERS = {
    "pool": _put,
    "drop": _drop,
    "rename": _rename,
    "undo": _undo,
    "ask": _ask,
    "give": _give,
    "names": _names,
    "stand": _stand,
    "live": _live,
    "place": _place,
    "open": _open_for,
    "by": _place_by,
    "fits": _fits,
    "moved": _moved,
    "need": _need,
}


def _told(answer):
    """The answer as it is written."""
    return "none" if answer is None else str(answer)


def _answer(board, word, parts):
    """Do a request, and tell its answer."""
    do = DOERS[word]
    try:
        return _told(do(board, *parts))
    except NoPool:
        return "refused NoPool"
    except Known:
        return "refused Known"
    except NoSize:
        return "refused NoSize"
    except NoNumber:
        return "refused NoNumber"
    except NothingDone:
        return "refused NothingDone"


def answers(text):
    """The answers to the lines of the text, which are all read before one is done."""
    if text == "":
        return []
    requests = []
    for number, line in enumerate(text.split("\n")):
        request = _request_in(line)
        if request is None:
            raise BadLine(number)
        requests.append(request)
    board = Board()
    told = []
    for word, parts in requests:
        told.append(_answer(board, word, parts))
    return told
