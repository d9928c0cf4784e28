"""A desk [21]."""

import random
import unittest

from lentblocks.board import Board
from lentblocks.bound import least_pool
from lentblocks.desk import answers
from lentblocks.errors import BadLine, BlockError
from lentblocks.moving import fewest_moved, fits
from lentblocks.rules import place_by
from lentblocks.texts import stand_text
from tests.cells import free_by_cells
from tests.helper import Case

FORTY = "9" * 40
# One of each request, as it may stand by itself.
RIGHT = (
    "pool p 8 1 2 4", "drop p", "rename p q", "undo", "ask p 1", "give p 0", "names", "stand p",
    "live p", "place p 1", "open 1", "by p first 1", "fits p 1 2", "moved p 1 2", "need p 8",
)
NO_NAMES = (
    "", "P", "p1", "1", "abcdefghi", "a_b", "a-b", "-", "pA", "p.", "p\t", "p\r", "\u00e9",
    "\u0430", "\u00aa",
)
NO_NUMBERS = (
    "", "-", "-1", "+1", "01", "00", "1.", "1,", "x", "0x1", "1_0", "\u00b2", "\u0663", "1\t", "1/2",
)


class Told(Case):
    def says(self, lines, told):
        self.tells(told, answers, "\n".join(lines))

    def test_each_request(self):
        self.says(
            ("names", "pool hall 4 1 2", "pool yard 8 1 4", "names", "ask hall 2", "ask hall 1",
             "ask hall 2", "stand hall", "stand yard", "live hall", "live yard", "place hall 1",
             "place hall 2", "place yard 4", "open 1", "open 2", "open 4", "open 3", "give hall 0",
             "stand hall", "rename hall shed", "names", "drop yard", "names", "undo", "undo", "undo",
             "stand hall", "names"),
            ["-", "done", "done", "hall yard", "0", "2", "none", "0 2; 2 1", "-", "3", "0", "3",
             "none", "0", "hall yard", "-", "yard", "-", "done", "2 1", "done", "shed yard", "done",
             "shed", "done", "done", "done", "0 2; 2 1", "hall yard"])

    def test_what_the_other_files_tell(self):
        self.says(
            ("pool p 16 1 2 4", "ask p 1", "ask p 1", "ask p 1", "ask p 4", "give p 1", "by p first 1",
             "by p last 1", "by p tight 1", "by p wide 1", "by p first 2", "by p last 4",
             "by p tight 2", "by p wide 4", "fits p 4 4", "fits p 4 4 1", "fits p 4 4 2 1 1",
             "fits p 4 4 2", "fits p 4 4 4", "moved p 4 4", "moved p 4 4 2", "moved p 4 4 4",
             "moved p 1", "need p 0", "need p 8", "need p 16", "need p 12"),
            ["done", "0", "1", "2", "4", "done", "1", "15", "1", "8", "8", "12", "8", "8", "yes",
             "yes", "no", "no", "no", "0", "1", "none", "0", "0", "16", "32", "refused NoNumber"])

    def test_refused(self):
        self.says(
            ("undo", "drop a", "rename a b", "rename a a", "ask a 1", "ask a 0", "give a 0", "stand a",
             "live a", "place a 1", "place a 9", "by a wide 1", "by a last 3", "fits a 1", "fits a 3",
             "moved a 1", "moved a 0", "need a 1", "open 9", "names"),
            ["refused NothingDone"] + ["refused NoPool"] * 17 + ["-", "-"])
        self.says(
            ("pool a 8 1 2", "pool b 0 1", "pool a 0 1", "pool b 8 1 2", "rename a b", "rename a a",
             "ask a 3", "ask a 0", "place a 4", "place b 2", "by a last 3", "by b first 2", "fits a 3",
             "fits a 1 0 2", "moved a 4", "moved b 1 2", "give a 0", "give b 7", "need a 3", "names",
             "stand a", "stand b", "undo", "undo", "undo", "names"),
            ["done", "done"] + ["refused Known"] * 4 + ["refused NoSize"] * 10
            + ["refused NoNumber"] * 3 + ["a b", "-", "-", "done", "done", "refused NothingDone", "-"])

    def test_what_is_refused_is_no_deed(self):
        self.says(
            ("pool a 2 1 2", "ask a 1", "ask a 2", "ask a 4", "give a 1", "rename a a", "pool a 0 1",
             "drop b", "stand a", "undo", "stand a", "undo", "stand a", "undo", "stand a", "undo"),
            ["done", "0", "none", "refused NoSize", "refused NoNumber", "refused Known",
             "refused Known", "refused NoPool", "0 1", "done", "0 1", "done", "-", "done",
             "refused NoPool", "refused NothingDone"])

    def test_none(self):
        self.says(
            ("pool a 0 1 2 4", "ask a 4", "place a 1", "by a first 1", "by a last 2", "by a tight 4",
             "by a wide 1", "moved a 1", "fits a 1", "live a", "stand a", "open 1", "undo", "names",
             "undo", "names"),
            ["done", "none", "none", "none", "none", "none", "none", "none", "no", "0", "-", "-",
             "done", "a", "done", "-"])

    def test_great_numbers(self):
        self.says(
            (f"pool abcdefgh {10 ** 30} 1 2 64", "ask abcdefgh 64", "ask abcdefgh 1",
             f"give abcdefgh {FORTY}", f"need abcdefgh {128 * 10 ** 27}", f"open {FORTY}",
             f"ask abcdefgh {FORTY}", f"fits abcdefgh {FORTY}", "by abcdefgh last 64",
             "stand abcdefgh", "drop abcdefgh", f"pool x {FORTY} 1 3", "live x", "place x 3"),
            ["done", "0", "64", "refused NoNumber",
             str(least_pool((1, 2, 64), 128 * 10 ** 27)), "-", "refused NoSize", "refused NoSize",
             str(10 ** 30 - 64), "0 64; 64 1", "done", "done", "0", "0"])

    def test_pools_of_all_chains_that_are_so_written(self):
        self.says(
            ("pool a 0 1", "pool b 7 1", "pool c 64 1 2 4 8 32 64", "pool d 128 1 64", "names"),
            ["done", "done", "done", "done", "a b c d"])

    def test_the_list_is_new(self):
        told = answers("names\nnames")
        told.append("x")
        self.assertEqual(answers("names\nnames"), ["-", "-"])
        empty = answers("")
        empty.append("x")
        self.assertEqual(answers(""), [])


class Wrong(Case):
    def bad(self, number, lines):
        self.refuses(BadLine, {"number": number}, answers, "\n".join(lines))

    def test_each_right_line_with_something_wrong(self):
        for line in RIGHT:
            self.assertEqual(len(answers(line)), 1)
            for wrong in (
                line + " ", " " + line, line.replace(" ", "  ", 1) if " " in line else "undo  ",
                line + "\t", "\t" + line, line.upper(), line + " x", line + " -", line + ",",
                line.replace(" ", "\t"), line[1:], "x" + line, line + "\r",
            ):
                if wrong != line:
                    self.bad(0, [wrong])
                    self.bad(1, ["names", wrong])
                    self.bad(2, ["names", "undo", wrong, "names"])

    def test_too_few_and_too_many_words(self):
        for line in (
            "pool", "pool p", "pool p 8", "pool 8 1 2", "pool p 1 2", "drop", "drop p q", "rename",
            "rename p", "rename p q r", "undo 1", "undo p", "ask", "ask p", "ask 1", "ask p 1 1",
            "give", "give p", "give p 0 0", "names p", "stand", "stand p q", "live", "live p 1",
            "place", "place p", "place p 1 2", "open", "open p", "open 1 2", "by", "by p", "by p last",
            "by p 1", "by p last 1 1", "by last 1", "by p best 1", "by p First 1", "by p 1 last",
            "by p table 1", "fits", "fits p", "fits 1", "moved", "moved p", "moved p q", "need",
            "need p", "need p 8 8", "need 8", "put p 8 1 2 4", "back", "twin", "name", "", " ", "-",
            "done", "none", "first", "open_for 1", "chain p",
        ):
            self.bad(0, [line] if line else ["", "names"])
            self.bad(1, ["names", line])

    def test_no_names(self):
        for name in NO_NAMES:
            for line in RIGHT:
                words = line.split(" ")
                if len(words) > 1 and words[0] != "open":
                    self.bad(1, ["names", " ".join([words[0], name, *words[2:]])])
            self.bad(1, ["names", "rename p " + name])
        for name in ("a", "abcdefgh", "zzzzzzzz", "undo", "names", "pool", "first", "none"):
            self.assertEqual(answers(f"pool {name} 0 1\nnames"), ["done", name])

    def test_no_numbers(self):
        for number in NO_NUMBERS:
            for line in (
                "pool p {} 1 2", "pool p 8 {}", "pool p 8 1 {}", "pool p 8 1 {} 4", "ask p {}",
                "give p {}", "place p {}", "open {}", "by p first {}", "fits p {}", "fits p 1 {}",
                "fits p {} 1", "moved p {}", "moved p 1 {} 2", "need p {}",
            ):
                self.bad(2, ["names", "undo", line.format(number), "nonsense"])

    def test_no_chains(self):
        for text in (
            "0", "2", "0 1", "2 4", "1 1", "1 2 2", "1 2 3", "1 4 2", "1 3 8", "1 128", "1 65", "1 0",
            "1 2 4 8 16 32 64", f"1 {FORTY}", "1 2 4 4",
        ):
            for cells in (0, 192, 65 * 128):
                self.bad(0, [f"pool p {cells} {text}"])
        for cells, text in ((6, "1 4"), (7, "1 2"), (1, "1 2"), (63, "1 64"), (10 ** 30 + 1, "1 2")):
            self.bad(0, [f"pool p {cells} {text}"])
            self.assertEqual(answers(f"pool p {cells - cells % 64} {text}"), ["done"])

    def test_lines_without_signs(self):
        self.bad(0, ["", ""])
        self.bad(1, ["names", ""])
        self.bad(0, ["", "names"])
        self.bad(1, ["names", "", "names"])
        self.bad(2, ["names", "names", "", ""])
        self.tells([], answers, "")
        self.tells(["-"], answers, "names")

    def test_all_lines_are_read_first(self):
        # What would be refused stands ahead of the wrong line, and another one behind it.
        self.bad(3, ["undo", "ask a 3", "pool p 0 1", "undone", "x"])
        self.bad(59, ["pool p 8 1 2 4"] + ["ask p 1"] * 58 + ["ask p one"])

    def test_sixty_lines(self):
        told = answers("\n".join(["pool p 64 1 2 4"] + ["ask p 1"] * 59))
        self.assertEqual(told, ["done", *map(str, range(59))])


class AgainstBoard(Case):
    """Requests by chance against a Board, with the other answers from the files that tell them."""

    def test_random_lines(self):
        for seed in range(60):
            choice = random.Random(seed)
            lines = [self.line(choice) for _ in range(60)]
            board = Board()
            told = [self.told(board, *line.split(" ")) for line in lines]
            self.assertEqual(answers("\n".join(lines)), told, lines)

    def line(self, choice):
        word = choice.choice([line.split(" ")[0] for line in RIGHT] + ["ask"] * 12 + ["pool"] * 3)
        name, size = choice.choice("abc"), choice.choice((0, 1, 1, 1, 2, 2, 3, 4))
        sizes = " ".join(str(choice.choice((1, 1, 1, 2, 2, 4))) for _ in range(choice.randint(1, 3)))
        chain = choice.choice(("1", "1 2", "1 2 4", "1 3"))
        return {
            "pool": f"pool {name} {int(chain[-1]) * choice.randint(0, 3)} {chain}",
            "rename": f"rename {name} {choice.choice('abc')}",
            "undo": "undo", "names": "names", "open": f"open {size}",
            "drop": f"drop {name}", "stand": f"stand {name}", "live": f"live {name}",
            "by": f"by {name} {choice.choice(('first', 'last', 'tight', 'wide'))} {size}",
            "fits": f"fits {name} {sizes}", "moved": f"moved {name} {sizes}",
            "need": f"need {name} {choice.choice((0, 2, 3, 4, 8, 9))}",
        }.get(word, f"{word} {name} {size}")

    def told(self, board, word, *rest):
        try:
            value = self.value(board, word, *rest)
        except BlockError as error:
            return "refused " + type(error).__name__
        return "none" if value is None else str(value)

    def value(self, board, word, *rest):
        if word == "pool":
            name, cells, *chain = rest
            board.put(name, tuple(map(int, chain)), int(cells))
            return "done"
        if word in ("drop", "rename", "undo"):
            getattr(board, word)(*rest)
            return "done"
        if word == "names":
            return " ".join(board.names) or "-"
        if word == "open":
            return " ".join(board.open_for(int(rest[0]))) or "-"
        name, *more = rest
        chain, pool, stand = board[name]
        if word == "by":
            return place_by(more[0], chain, pool, stand, int(more[1]))
        numbers = tuple(map(int, more))
        if word == "give":
            board.give(name, *numbers)
            return "done"
        if word == "place" and numbers[0] in chain:
            return min(free_by_cells(pool, stand, numbers[0]), default=None)
        return {
            "ask": lambda: board.ask(name, *numbers),
            "place": lambda: board.place(name, *numbers),
            "stand": lambda: stand_text(stand),
            "live": lambda: sum(size for _, size in stand),
            "fits": lambda: "yes" if fits(chain, pool, stand, numbers) else "no",
            "moved": lambda: fewest_moved(chain, pool, stand, numbers),
            "need": lambda: least_pool(chain, *numbers),
        }[word]()


if __name__ == "__main__":
    unittest.main()
