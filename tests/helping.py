"""What several tests use."""

import ast
import copy
import importlib

from plainlock import errors

ONE, TWO, SLOPE = (1, 1), (2, 1), ((1, 1), (1, 1))
# The PLAN of the document's examples.
LONE = (((0,),), (((8, 1), "all", (0, 1)),), (SLOPE, SLOPE), ((ONE, TWO), (ONE, TWO), (ONE, (3, 1)), (ONE, None)),
        ((10, 1), "sent", (0, 1), "once", False), ((True, True),), ())
MODULES = ("errors", "fractions", "sums", "rings", "sheets", "plans", "keepers", "clients", "stores", "runs", "lots", "ways",
           "borders", "kinds", "plain", "laid", "right", "programs", "views", "promises", "bridge",
           "changes", "judge", "texts", "desk")


def all_names():
    """A dict of all names of the modules' interfaces."""
    names = {}
    for word in MODULES:
        module = importlib.import_module("plainlock." + word)
        for name in vars(module):
            if not name.startswith("_"):
                names[name] = getattr(module, name)
    return names


def run_example(test, names, code, told):
    """Type code, and compare with what the document tells, by its very kinds."""
    if told.startswith("raises "):
        wanted = eval(told[len("raises "):], dict(names))
        with test.assertRaises(type(wanted)) as caught:
            eval(code, names)
        test.assertEqual(vars(caught.exception), vars(wanted))
    elif told:
        # repr tells lists from tuples and True from 1.
        test.assertEqual(repr(eval(code, names)), repr(ast.literal_eval(told)))
    else:
        exec(code, names)


def at(whole):
    return (whole, 1)


def bent(value, path, new):
    """value with new at the end of path; new may be a function of what stood there."""
    if not path:
        return new(value) if callable(new) else new
    place = path[0]
    return value[:place] + (bent(value[place], path[1:], new),) + value[place + 1:]


def listed(value):
    """value with lists for tuples, at any depth."""
    if isinstance(value, (list, tuple)):
        return [listed(part) for part in value]
    return value


def outcome(call, *given, **named):
    """What a call returns, or the error that it raises, to compare as text."""
    try:
        return repr(call(*given, **named))
    except (errors.NoPlace, errors.CanNot, errors.Unfit, errors.TooMany, errors.Broken, errors.BadText) as error:
        return repr((type(error).__name__, vars(error)))


def check_call(test, call, names, given, things=()):
    """The rules for every function: lists for tuples, by name, twice, nothing changed.

    names are those of the arguments; things are the places of arguments called
    thing, in which a list is no tuple.
    """
    wanted = outcome(call, *given)
    test.assertEqual(outcome(call, *given), wanted, "twice")
    test.assertEqual(outcome(call, **dict(zip(names, given))), wanted, "by name")
    lists = [value if k in things else listed(value) for k, value in enumerate(given)]
    before = copy.deepcopy(lists)
    test.assertEqual(outcome(call, *lists), wanted, "lists for tuples")
    test.assertEqual(repr(lists), repr(before), "left as they were")
    return wanted
