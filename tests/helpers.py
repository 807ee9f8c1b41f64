"""What the tests share: looking at what is told, part by part."""

from copy import deepcopy


def lists_in(thing):
    """Every list in the thing, itself too, as often as it stands there."""
    if not isinstance(thing, (list, tuple)):
        return []
    found = [thing] if isinstance(thing, list) else []
    for part in thing:
        found += lists_in(part)
    return found


def leaves_in(thing):
    """All that stands in the thing and is neither a list nor a tuple."""
    if not isinstance(thing, (list, tuple)):
        return [thing]
    found = []
    for part in thing:
        found += leaves_in(part)
    return found


def spoil(thing):
    """Change every list in the thing."""
    for row in lists_in(thing):
        row.reverse()
        row.append("spoilt")


def check_told(test, function, *questions):
    """Point 2 for one question; what was told comes back as it was at first."""
    # All is done to copies, as what is handed in is changed at the end.
    args = deepcopy(questions)
    before = deepcopy(questions)
    told = function(*args)
    first = deepcopy(told)
    test.assertEqual(args, before, "what was handed in was changed")
    check_own(test, told, args)
    spoil(told)
    test.assertEqual(args, before, "what was told hangs together with what was handed in")
    again = function(*args)
    test.assertEqual(again, first, "asked again, something else was told")
    check_own(test, again, args)
    spoil(list(args))
    test.assertEqual(again, first, "what was handed in hangs together with what was told")
    test.assertEqual(function(*before), first, "asked with the same, something else was told")
    return first


def check_own(test, told, args):
    """Each list told stands there once, none was handed in, and numbers are no truths."""
    rows = lists_in(told)
    for at, row in enumerate(rows):
        for other in rows[at + 1:] + lists_in(args):
            test.assertIsNot(row, other)
    for leaf in leaves_in(told):
        test.assertIs(type(leaf), int)


def refusal(function, *args):
    """The class of the refusal, or None where none is made; what is handed in stays the same."""
    before = deepcopy(args)
    try:
        function(*args)
    except ValueError as error:
        assert args == before, "what was handed in was changed"
        return type(error)
    return None
