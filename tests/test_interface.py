"""The names, the places and the parameters that the interface lists, and the errors [22]."""

import importlib
import inspect
import pathlib
import re
import unittest

from lentblocks import errors

DOCUMENT = pathlib.Path(__file__).parent.parent.parent / "shared" / "DOC.md"

# For each file, its functions as the interface writes them.
FUNCTIONS = {
    "chains": """is_chain(thing), ratios(chain), chain_of(rates), size_for(chain, length),
        place_of(chain, size), is_finer(one, other), common_chain(one, other),
        all_chains(greatest), how_many_chains(greatest), nth_chain(greatest, number),
        number_of_chain(chain)""",
    "stands": """is_block(chain, thing), is_stand(chain, pool, thing), live(stand),
        sizes_of(stand), last_end(stand), block_at(stand, cell), holes(pool, stand),
        how_many_places(pool, stand, size), is_place(pool, stand, size, first),
        nth_place(pool, stand, size, number), greatest_fit(chain, pool, stand),
        put(pool, stand, first, size), taken(stand, first), free_blocks(chain, pool, stand)""",
    "rows": """is_row(chain, thing), asks_of(row), out_at(row), height(row), still_out(row),
        with_ask(chain, row, size), with_back(row, number), all_back(row),
        stands_by(chain, pool, row, places), is_places(chain, pool, row, thing)""",
    "first": """first_place(pool, stand, size), first_places(chain, pool, row),
        first_stands(chain, pool, row), serves_first(chain, pool, row), first_pool(chain, row),
        ends_first(chain, row)""",
    "bound": """unit(chain), is_even(chain, budget), lines(chain, budget), least_pool(chain, budget),
        pool_bounds(chain, budget), factor(chain), budget_for(chain, pool),
        over_lines(chain, budget, stand), slot_weights(chain, budget, size),
        is_full_stand(chain, budget, size, thing), full_stand(chain, budget, size)""",
    "opponents": """opponent(chain, budget, pool, place), met_behind(chain, budget, pool, place),
        greatest_end(chain, budget, place), is_opponent_row(chain, budget, row, places)""",
    "rules": """is_written(chain, pool, thing), mirrored(pool, stand),
        room_of(chain, pool, stand, first, size), place_by(rule, chain, pool, stand, size),
        served_by(rule, chain, pool, row), refused_by(rule, chain, pool, row),
        serves(rule, chain, pool, row), places_by(rule, chain, pool, row),
        pool_by(word, chain, row)""",
    "reach": """stands_of(chain, pool, budget, place), refusal(chain, pool, budget, place),
        fewest_deeds(chain, pool, budget, place), is_refusal(chain, pool, budget, place, thing),
        is_closed(chain, pool, budget, place, thing), good_stands(chain, pool, budget),
        some_rule(chain, pool, budget), good_places(chain, pool, budget, stand, size),
        least_for_any(chain, budget)""",
    "moving": """fits(chain, pool, stand, sizes), laid(chain, pool, stand, sizes),
        is_laid(chain, pool, stand, sizes, thing), can_be_met(chain, pool, stand, sizes),
        fewest_moved(chain, pool, stand, sizes), best_moves(chain, pool, stand, sizes),
        is_moves(chain, pool, stand, sizes, thing), is_best_moves(chain, pool, stand, sizes, thing),
        least_lived(chain, pool, stand, size)""",
    "rounding": """worst_length(chain, length), waste(chain, length), is_tight(chain, length),
        tight_chains(length, greatest), beats(one, other, length), best_chains(length, greatest),
        beaten_by(chain, length, greatest), is_beaten_by(chain, length, greatest, thing),
        best_within(length, greatest, limit), enough_pool(chain, length, total)""",
    "surely": """short_sizes(chain, pool, stand, sizes), are_sure(chain, pool, stand, sizes),
        refused_order(chain, pool, stand, sizes),
        is_refused_order(chain, pool, stand, sizes, thing),
        more_sure(chain, pool, stand, sizes, size), sure_cells(chain, pool, stand)""",
    "waste": """free_slots(pool, stand, size), touched_cells(stand, size), touched_by(chain, stand),
        slot_sums(pool, stand, size), stuck_sizes(chain, pool, stand),
        least_back(pool, stand, size), back_blocks(pool, stand, size),
        is_back(pool, stand, size, thing)""",
    "pools": """pool_for(sizes, budget), is_parting(chain, thing), all_partings(chain),
        how_many_partings(many), total_for(chain, parts, budget),
        fewest_pools(chain, budget, most), best_parting(chain, budget, most),
        is_best_parting(chain, budget, most, thing)""",
    "hidden": "surveyed(chain, most, asker)",
    "texts": """numbers_text(numbers), stand_text(stand), row_text(row), fraction_text(part),
        numbers_from(text), stand_from(text), row_from(text), fraction_from(text)""",
    "desk": "answers(text)",
}

# For each file its class, the parameters, the properties and the methods as they are written.
CLASSES = {
    "hidden": ("Survey", "(chain, most)", "chain, most, told, out", """ask(size, answer),
        give(first), back(), twin(), known_free(), may_be_free(), sure(size), next_ask(),
        __len__(), __eq__(other)"""),
    "changes": ("Watch", "(chain, pool, stand=())", "chain, pool, stand, told", """live(),
        height(), reach(), refused(), ask(size), give(first), back(), twin(), __len__(),
        __eq__(other)"""),
    "board": ("Board", "()", "names, deeds", """put(name, chain, pool), drop(name),
        rename(name, new), ask(name, size), give(name, first), undo(), twin(), live(name),
        place(name, size), open_for(size), __len__(), __contains__(name), __getitem__(name),
        __eq__(other)"""),
}

# For each error class, the values that it takes and keeps.
ERRORS = {
    "AllKnown": (),
    "BadAnswer": ("answer",),
    "BadLine": ("number",),
    "BadText": ("piece",),
    "Known": ("name",),
    "NoNumber": ("number",),
    "NoPlace": ("number",),
    "NoPool": ("name",),
    "NoSize": ("size",),
    "NothingDone": (),
}


def listed(text):
    """The pairs (name, parameters) of functions as the interface writes them."""
    pairs = []
    for part in " ".join(text.split()).split("), "):
        name, inner = part.rstrip(")").split("(")
        pairs.append((name, inner.split(", ") if inner else []))
    return pairs


class Functions(unittest.TestCase):
    def test_names_and_parameters(self):
        for file, text in FUNCTIONS.items():
            module = importlib.import_module("lentblocks." + file)
            for name, parameters in listed(text):
                with self.subTest(file=file, name=name):
                    function = getattr(module, name)
                    self.assertTrue(inspect.isfunction(function))
                    self.assertEqual(function.__module__, "lentblocks." + file)
                    self.assertEqual(function.__name__, name)
                    told = inspect.signature(function).parameters.values()
                    self.assertEqual([one.name for one in told], parameters)
                    for one in told:
                        self.assertEqual(one.kind, one.POSITIONAL_OR_KEYWORD)
                        self.assertEqual(one.default, one.empty)


class Classes(unittest.TestCase):
    def test_each_class(self):
        for file, (name, parameters, properties, methods) in CLASSES.items():
            with self.subTest(file=file, name=name):
                one = getattr(importlib.import_module("lentblocks." + file), name)
                self.assertTrue(inspect.isclass(one))
                self.assertEqual((one.__module__, one.__name__), ("lentblocks." + file, name))
                self.assertEqual(str(inspect.signature(one)), parameters)
                for word in properties.split(", ") if properties else ():
                    self.assertIsInstance(vars(one)[word], property)
                    self.assertIsNone(vars(one)[word].fset)
                    self.assertIsNone(vars(one)[word].fdel)

    def test_each_method_is_defined_in_the_class_itself(self):
        for file, (name, _, _, methods) in CLASSES.items():
            own = vars(getattr(importlib.import_module("lentblocks." + file), name))
            for word, parameters in listed(methods):
                with self.subTest(name=name, word=word):
                    self.assertTrue(inspect.isfunction(own[word]))
                    told = list(inspect.signature(own[word]).parameters.values())
                    self.assertEqual(told[0].name, "self")
                    if not word.startswith("__"):
                        self.assertEqual([one.name for one in told[1:]], parameters)
                    self.assertEqual(len(told) - 1, len(parameters))
                    for one in told:
                        self.assertEqual(one.kind, one.POSITIONAL_OR_KEYWORD)
                        self.assertEqual(one.default, one.empty)

    def test_nothing_else_is_public(self):
        for file, (name, _, properties, methods) in CLASSES.items():
            own = vars(getattr(importlib.import_module("lentblocks." + file), name))
            told = properties.split(", ") if properties else []
            told += [word for word, _ in listed(methods) if not word.startswith("_")]
            self.assertEqual(
                sorted(word for word in own if not word.startswith("_")), sorted(told))


class Document(unittest.TestCase):
    def test_no_name_of_the_interface_is_left_out(self):
        if not DOCUMENT.exists():
            self.skipTest("the document is not beside the project")
        told = {}
        for part in DOCUMENT.read_text().split("\n## lentblocks/")[1:]:
            file, rest = part.split(".py\n")
            told[file] = set(re.findall(r"(\w+)\(", rest)) - {"len"}
        here = {file: {name for name, _ in listed(text)} for file, text in FUNCTIONS.items()}
        for file, (name, _, _, methods) in CLASSES.items():
            names = {word for word, _ in listed(methods) if not word.startswith("_")}
            here[file] = here.get(file, set()) | names | {name}
        here["errors"] = set(ERRORS)
        self.assertEqual(told, here)


class Errors(unittest.TestCase):
    def test_all_stand_directly_under_block_error(self):
        self.assertEqual(errors.BlockError.__bases__, (ValueError,))
        for name in ERRORS:
            with self.subTest(name=name):
                one = getattr(errors, name)
                self.assertEqual(one.__bases__, (errors.BlockError,))
                self.assertEqual(one.__name__, name)
                self.assertEqual(one.__module__, "lentblocks.errors")

    def test_there_are_no_others(self):
        own = [name for name, one in vars(errors).items() if inspect.isclass(one)]
        self.assertEqual(sorted(own), sorted([*ERRORS, "BlockError"]))

    def test_values_by_place_and_by_name(self):
        for name, kept in ERRORS.items():
            one = getattr(errors, name)
            for value in (3, -1, 0, 10 ** 5000, "pool", None, (1, 2)):
                values = {word: value for word in kept}
                with self.subTest(name=name, kind=type(value)):
                    self.assertEqual(vars(one(*values.values())), values)
                    self.assertEqual(vars(one(**values)), values)

    def test_wrong_numbers_of_values(self):
        for name, kept in ERRORS.items():
            one = getattr(errors, name)
            with self.subTest(name=name):
                with self.assertRaises(TypeError):
                    one(*kept, 1)
                with self.assertRaises(TypeError):
                    one(other=1, **{word: 1 for word in kept})
                if kept:
                    with self.assertRaises(TypeError):
                        one()

    def test_caught_as_block_error_and_as_value_error(self):
        for name, kept in ERRORS.items():
            for caught in (errors.BlockError, ValueError):
                with self.assertRaises(caught):
                    raise getattr(errors, name)(*kept)


if __name__ == "__main__":
    unittest.main()
