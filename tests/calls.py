"""Checks that hold for every function of the interface."""

import copy
import inspect


def as_lists(value):
    """The value with a list in the place of every tuple."""
    if isinstance(value, (tuple, list)):
        return [as_lists(part) for part in value]
    return value


def same_kind(one, other):
    """Equal, with lists, tuples, bools and numbers in the same places."""
    if type(one) is not type(other):
        return False
    if isinstance(one, (tuple, list)):
        return len(one) == len(other) and all(same_kind(a, b) for a, b in zip(one, other))
    return one == other


def check_parameters(test, function, names):
    """The parameters have these names, in this order, and may be given by position or by name."""
    parameters = list(inspect.signature(function).parameters.values())
    test.assertEqual([parameter.name for parameter in parameters], names)
    for parameter in parameters:
        test.assertEqual(parameter.kind, inspect.Parameter.POSITIONAL_OR_KEYWORD)
        test.assertIs(parameter.default, inspect.Parameter.empty)


def check_call(test, function, arguments, expected):
    """The call returns the expected value, also with lists for tuples and by name, and changes no argument."""
    in_lists = {name: as_lists(value) for name, value in arguments.items()}
    for given in (arguments, in_lists):
        kept = copy.deepcopy(given)
        by_position = function(*given.values())
        by_name = function(**given)
        for result in (by_position, by_name):
            test.assertTrue(same_kind(result, expected), (function.__name__, given, result, expected))
        test.assertTrue(same_kind(given, kept) and all(same_kind(given[name], kept[name]) for name in kept))


def check_thing(test, function, arguments, thing, expected):
    """The function tells whether thing is as described: with a bool, and without a change to thing."""
    kept = copy.deepcopy(thing)
    test.assertIs(function(*arguments, thing), expected, (function.__name__, arguments, str(type(thing))))
    test.assertTrue(same_kind(thing, kept))


def raised(test, error_class, attribute, call):
    """The value of the attribute of the error that the call raises; it is of this very class."""
    with test.assertRaises(error_class) as caught:
        call()
    test.assertIs(type(caught.exception), error_class)
    return getattr(caught.exception, attribute)


def check_error(test, function, arguments, error_class, attribute, value):
    """The call raises the error with the value, also with lists for tuples and by name, and changes no argument."""
    in_lists = {name: as_lists(part) for name, part in arguments.items()}
    for given in (arguments, in_lists):
        kept = copy.deepcopy(given)
        for call in (lambda: function(*given.values()), lambda: function(**given)):
            test.assertTrue(same_kind(raised(test, error_class, attribute, call), value), (function.__name__, given))
        test.assertTrue(all(same_kind(given[name], kept[name]) for name in kept))
