"""Texts [19]."""

import itertools
import math
import re
import unittest

from lentblocks.errors import BadText
from lentblocks.texts import (
    fraction_from,
    fraction_text,
    numbers_from,
    numbers_text,
    row_from,
    row_text,
    stand_from,
    stand_text,
)
from tests.helper import Case

GREAT = 10 ** 40 - 1
READERS = (numbers_from, stand_from, row_from, fraction_from)
NUMBER = "(?:0|[1-9][0-9]*)"
FROM_ONE = "(?:[1-9][0-9]*)"
# Signs that are digits or numbers, but none from 0 to 9, and signs that int would take.
OTHER_DIGITS = (
    "\u00b2", "\u0663", "\uff11", "\u0967", "\u2460", "\u00bd", "\u4e00", "\U0001d7d9",
)
NO_NUMBERS = (
    "", "00", "01", "007", "+1", "-1", "--", "1_0", "_1", "1.", ".5", "1.0", "1e3", "0x1", "0b1",
    "a", "1a", "a1", "1,", "\t1", "1\t", "1\n", "\n", "\n1", "1\r", "\u00a01", "1\u00a0", "\x00",
    "1\x00", "None", "True", "\u22121", "--1", "1-", *OTHER_DIGITS,
    *("1" + sign for sign in OTHER_DIGITS), *(sign + "1" for sign in OTHER_DIGITS),
)


def is_written(pattern, text):
    return re.fullmatch(pattern, text) is not None


class Written(Case):
    def test_nothing_in_it(self):
        for function in (numbers_text, stand_text, row_text):
            self.tells("-", function, ())
        for function in (numbers_from, stand_from, row_from):
            self.tells((), function, "-")
        self.refuses(BadText, {"piece": 0}, fraction_from, "-")
        for function in READERS:
            self.refuses(BadText, {"piece": 0}, function, "")

    def test_there_and_back(self):
        for numbers, text in (
            ((0,), "0"), ((1,), "1"), ((0, 0), "0 0"), ((1, 2, 8), "1 2 8"), ((8, 2, 2), "8 2 2"),
            ((10, 100), "10 100"), ((GREAT, 0), f"{GREAT} 0"),
            (tuple(range(300)), " ".join(map(str, range(300)))),
        ):
            self.tells(text, numbers_text, numbers)
            self.tells(numbers, numbers_from, text)
        for stand, text in (
            (((0, 4),), "0 4"), (((0, 4), (8, 2)), "0 4; 8 2"), (((0, 3), (1, 3)), "0 3; 1 3"),
            (((5, 100), (6, 7), (GREAT, GREAT)), f"5 100; 6 7; {GREAT} {GREAT}"),
            (tuple((at, at + 1) for at in range(300)),
             "; ".join(f"{at} {at + 1}" for at in range(300))),
        ):
            self.tells(text, stand_text, stand)
            self.tells(stand, stand_from, text)
        for row, text in (
            ((("ask", 4),), "ask 4"), ((("back", 0),), "back 0"),
            ((("ask", 4), ("back", 0)), "ask 4; back 0"),
            ((("back", 7), ("back", 7), ("ask", GREAT)), f"back 7; back 7; ask {GREAT}"),
            ((("ask", 3),) * 300, "; ".join(["ask 3"] * 300)),
        ):
            self.tells(text, row_text, row)
            self.tells(row, row_from, text)
        for part, text in (
            ((0, 1), "0"), ((1, 1), "1"), ((3, 2), "3/2"), ((1, 2), "1/2"), ((7, 1), "7"),
            ((GREAT, 1), str(GREAT)), ((GREAT, GREAT - 1), f"{GREAT}/{GREAT - 1}"),
        ):
            self.tells(text, fraction_text, part)
            self.tells(part, fraction_from, text)

    def test_all_small_fractions(self):
        for top, bottom in itertools.product(range(12), range(12)):
            text = f"{top}/{bottom}"
            if bottom > 1 and math.gcd(top, bottom) == 1:
                self.tells((top, bottom), fraction_from, text)
                self.tells(text, fraction_text, (top, bottom))
            else:
                self.refuses(BadText, {"piece": 0}, fraction_from, text)


class Wrong(Case):
    def test_no_numbers(self):
        for word in NO_NUMBERS:
            self.refuses(BadText, {"piece": 0}, numbers_from, word)
            self.refuses(BadText, {"piece": 2}, numbers_from, "1 0 " + word)
            self.refuses(BadText, {"piece": 1}, numbers_from, f"1 {word} 2 x")
            self.refuses(BadText, {"piece": 0}, fraction_from, word)
            self.refuses(BadText, {"piece": 0}, fraction_from, word + "/7")
            self.refuses(BadText, {"piece": 0}, fraction_from, "7/" + word)
            for text in (f"{word} 2", f"3 {word}"):
                self.refuses(BadText, {"piece": 0}, stand_from, text)
                self.refuses(BadText, {"piece": 1}, stand_from, f"0 1; {text}")
                self.refuses(BadText, {"piece": 1}, stand_from, f"0 1; {text}; 9 9")
            for text in (f"ask {word}", f"back {word}"):
                self.refuses(BadText, {"piece": 0}, row_from, text)
                self.refuses(BadText, {"piece": 2}, row_from, f"back 0; ask 1; {text}")

    def test_blanks_and_signs_between(self):
        for text, piece in (
            (" ", 0), (" 1", 0), ("1 ", 1), ("1  2", 1), ("1 2 ", 2), ("- 1", 0), ("1 -", 1),
            ("1 - 2", 1), ("- -", 0), ("1,2", 0), ("1; 2", 0), ("1\n2", 0), ("1\t2", 0),
        ):
            self.refuses(BadText, {"piece": piece}, numbers_from, text)
        for text, piece in (
            (" ", 0), ("0 4;8 2", 0), ("0 4;  8 2", 1), ("0 4 ; 8 2", 0), ("0 4; 8 2;", 1),
            ("0 4; 8 2; ", 2), ("; 0 4", 0), ("; ", 0), (";", 0), ("0  4", 0), (" 0 4", 0),
            ("0 4 ", 0), ("0", 0), ("0 4 1", 0), ("0 4; 8", 1), ("0 4; 8 2 1", 1), ("- ", 0),
            ("-; 0 4", 0), ("0 4; -", 1), ("0 4, 8 2", 0), ("(0, 4)", 0), ("0 4; 8 2\n", 1),
            ("0 4;\n8 2", 0), ("ask 4", 0),
        ):
            self.refuses(BadText, {"piece": piece}, stand_from, text)
        for text, piece in (
            (" ", 0), ("ask", 0), ("ask ", 0), (" ask 4", 0), ("ask  4", 0), ("ask 4 ", 0),
            ("ask 4; ", 1), ("ask 4;back 0", 0), ("Ask 4", 0), ("ASK 4", 0), ("asks 4", 0),
            ("give 4", 0), ("4 ask", 0), ("4", 0), ("ask 4 4", 0), ("ask 4; back", 1),
            ("back 0; back 0; backs 0", 2), ("-; ask 4", 0), ("ask 4; -", 1), ("; ask 4", 0),
            ("ask4", 0), ("ask\t4", 0), ("ask 4;\nback 0", 0), ("ask 4\nback 0", 0), ("4 2", 0),
        ):
            self.refuses(BadText, {"piece": piece}, row_from, text)
        for text in (
            " ", "/", "3/", "/2", "3//2", "3/2/1", " 3/2", "3/2 ", "3 /2", "3/ 2", "3 2", "3/2; 1",
            "-3/2", "3/-2", "3:2", "1.5", "--", "- ", "3/2\n", "4 1",
        ):
            self.refuses(BadText, {"piece": 0}, fraction_from, text)

    def test_numbers_that_do_not_stand_there(self):
        for text, piece in (
            ("0 0", 0), ("0 4; 8 0", 1), ("8 2; 0 4", 1), ("0 4; 0 4", 1), ("0 4; 0 2", 1),
            ("5 1; 5 2", 1), ("0 1; 1 1; 3 1; 2 1; 9 0", 3), ("4 1; 3 0; 2 x", 1),
            (f"{GREAT} 1; {GREAT - 1} 1", 1), ("9 1; 10 1; 9 1", 2), ("2 1; 10 1; 9 1", 2),
        ):
            self.refuses(BadText, {"piece": piece}, stand_from, text)
        for text, piece in (
            ("ask 0", 0), ("back 0; ask 0", 1), ("ask 1; ask 0; ask x", 1), ("back 00", 0),
        ):
            self.refuses(BadText, {"piece": piece}, row_from, text)
        for text in ("0/1", "3/1", "0/0", "3/0", "0/2", "2/2", "4/2", "2/4", "6/9", "1/1",
                     f"{GREAT}/{GREAT}", "10/100", "1/01", "01/2"):
            self.refuses(BadText, {"piece": 0}, fraction_from, text)

    def test_the_first_wrong_piece_of_several_kinds(self):
        for pieces in itertools.permutations(("7 1", "3 0", "x", "2 2", "", "9 1")):
            told = None
            ahead = -1
            for number, piece in enumerate(pieces):
                if not is_written(f"{NUMBER} {FROM_ONE}", piece) or int(piece[0]) <= ahead:
                    told = number
                    break
                ahead = int(piece[0])
            with self.assertRaises(BadText) as caught:
                stand_from("; ".join(pieces))
            self.assertEqual(caught.exception.piece, told)

    def test_all_short_texts(self):
        patterns = {
            numbers_from: f"-|{NUMBER}(?: {NUMBER})*",
            stand_from: f"-|{NUMBER} {FROM_ONE}(?:; {NUMBER} {FROM_ONE})*",
            row_from: f"-|(?:ask {FROM_ONE}|back {NUMBER})(?:; (?:ask {FROM_ONE}|back {NUMBER}))*",
            fraction_from: f"{NUMBER}(?:/{FROM_ONE})?",
        }
        for many in range(5):
            for signs in itertools.product("012 ;/-", repeat=many):
                text = "".join(signs)
                for function, pattern in patterns.items():
                    self.check(function, is_written(pattern, text), text)
        for words in itertools.product(("ask", "back", "1", "0", " ", "; "), repeat=5):
            text = "".join(words)
            self.check(row_from, is_written(patterns[row_from], text), text)

    def check(self, function, written, text):
        """Whether a text is told if it is so written, and is then written again as it was."""
        try:
            told = function(text)
        except BadText:
            told = None
        if not written:
            self.assertIsNone(told, (function, text))
        elif function is fraction_from and told is None:
            top, bottom = map(int, text.split("/"))
            self.assertTrue(bottom < 2 or math.gcd(top, bottom) > 1, text)
        elif function is stand_from and told is None:
            firsts = [int(piece.split(" ")[0]) for piece in text.split("; ")]
            self.assertNotEqual(firsts, sorted(set(firsts)), text)
        else:
            again = {
                numbers_from: numbers_text, stand_from: stand_text, row_from: row_text,
                fraction_from: fraction_text,
            }[function]
            self.assertEqual(again(told), text)


if __name__ == "__main__":
    unittest.main()
