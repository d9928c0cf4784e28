"""What several tests use: calls made in all documented ways, and the document's examples."""

import ast
import copy
import inspect
import unittest


def alike(one, other):
    """Whether both are equal and of the same kind, at any depth."""
    if type(one) is not type(other):
        return False
    if isinstance(one, (list, tuple)):
        return len(one) == len(other) and all(map(alike, one, other))
    return one == other


def as_lists(value):
    """The value with a list in the place of each tuple."""
    if isinstance(value, (list, tuple)):
        return [as_lists(part) for part in value]
    return value


def outcome(call):
    """What a call told or raised, as a tuple that can be compared by alike."""
    try:
        return ("told", call())
    except Exception as error:
        return ("raised", type(error).__name__, tuple(sorted(vars(error).items())))


class Case(unittest.TestCase):
    """Checks a call made by place, by name, with lists for tuples, and once more."""

    def outcome_of(self, function, values):
        names = list(inspect.signature(function).parameters)
        lists = [
            value if name == "thing" else as_lists(value) for name, value in zip(names, values)
        ]
        before = copy.deepcopy((values, lists))
        first = outcome(lambda: function(*values))
        for told in (
            outcome(lambda: function(*values)),
            outcome(lambda: function(**dict(zip(names, values)))),
            outcome(lambda: function(*lists)),
            outcome(lambda: function(**dict(zip(names, lists)))),
        ):
            self.assertTrue(alike(first, told), (function.__name__, values, first, told))
        self.assertTrue(alike(before, (values, lists)), (function.__name__, values))
        return first

    def tells(self, expected, function, *values):
        found = self.outcome_of(function, values)
        self.assertTrue(
            alike(("told", expected), found), (function.__name__, values, expected, found)
        )

    def refuses(self, error, attributes, function, *values):
        found = self.outcome_of(function, values)
        expected = ("raised", error.__name__, tuple(sorted(attributes.items())))
        self.assertTrue(alike(expected, found), (function.__name__, values, expected, found))


def told(value):
    """That a step of walks tells this value."""
    return ("told", value)


def raised(error, **attributes):
    """That a step of walks raises this error."""
    return ("raised", error.__name__, tuple(sorted(attributes.items())))


def in_all_ways(function, values):
    """Calls of the function by place, by name, with lists for tuples, and both."""
    names = list(inspect.signature(function).parameters)
    lists = as_lists(list(values))
    return [
        lambda: function(*values),
        lambda: function(**dict(zip(names, values))),
        lambda: function(*lists),
        lambda: function(**dict(zip(names, lists))),
    ]


def walks(case, make, values, seen, steps):
    """Make an object in all ways, and with each do the steps, each call in the way it was made.

    A step is a name of a method, its values, and what it tells or raises; what is seen of the
    object is not changed by a step that raises. The objects are told.
    """
    objects = [call() for call in in_all_ways(make, values)]
    for name, given, expected in steps:
        for way, one in enumerate(objects):
            before = seen(one)
            found = outcome(in_all_ways(getattr(one, name), given)[way])
            case.assertTrue(alike(expected, found), (name, given, expected, found))
            if found[0] == "raised":
                case.assertTrue(alike(before, seen(one)), (name, given))
    for one in objects:
        case.assertTrue(alike(seen(objects[0]), seen(one)))
        case.assertTrue(one == objects[0] and not one != objects[0])
    return objects


def examples_in(text):
    """The pairs (statement, what is stated behind it, maybe "") of examples."""
    pairs = []
    for line in text.splitlines():
        if line.startswith(">>> "):
            pairs.append([line[4:], ""])
        else:
            pairs[-1][1] = line
    return pairs


def expected_outcome(stated, names):
    """What an example states, as outcome tells it."""
    if not stated.startswith("raises "):
        return ("told", eval(stated, dict(names)))
    call = ast.parse(stated[len("raises "):], mode="eval").body
    values = sorted((part.arg, ast.literal_eval(part.value)) for part in call.keywords)
    return ("raised", call.func.id, tuple(values))


def run_examples(case, text, names):
    """Do each statement of the examples; compare what it tells or raises."""
    for statement, stated in examples_in(text):
        with case.subTest(statement=statement):
            if stated == "":
                exec(statement, names)
                continue
            found = outcome(lambda: eval(statement, names))
            expected = expected_outcome(stated, names)
            case.assertTrue(alike(expected, found), (expected, found))
