"""Points [2] and [3] for any function: ways to hand in, and whose the told things are."""

import copy


def with_lists(thing):
    """The same, with lists for all tuples."""
    if isinstance(thing, (list, tuple)):
        return [with_lists(part) for part in thing]
    return thing


def with_tuples(thing):
    """The same, with tuples for all lists."""
    if isinstance(thing, (list, tuple)):
        return tuple(with_tuples(part) for part in thing)
    return thing


def shape_of(thing):
    """The thing with the classes of all its parts."""
    if isinstance(thing, (list, tuple)):
        return (type(thing), [shape_of(part) for part in thing])
    return (type(thing), thing)


def outcome(function, *places, **names):
    """What is told, with its kinds; or who refuses, with the fields."""
    try:
        return ("told", shape_of(function(*places, **names)))
    except (ValueError, LookupError, OverflowError) as error:
        return ("refused", type(error), vars(error))


def spoil(thing):
    """Change a told thing wherever it can be changed."""
    if isinstance(thing, (list, tuple)):
        for part in thing:
            spoil(part)
    if isinstance(thing, list):
        thing.append("spoilt")
        thing.reverse()


def check_handing(case, function, just=(), **names):
    """Ask in all ways the document allows; the names in just are left as they are."""
    wanted = outcome(function, *names.values())
    turned = dict(reversed(list(names.items())))
    case.assertEqual(outcome(function, **names), wanted, names)
    case.assertEqual(outcome(function, **turned), wanted, names)
    for change in (with_lists, with_tuples):
        handed = {name: value if name in just else change(value) for name, value in names.items()}
        before = copy.deepcopy(handed)
        case.assertEqual(outcome(function, **handed), wanted, handed)
        case.assertEqual(outcome(function, *handed.values()), wanted, handed)
        case.assertEqual(shape_of(list(handed.values())), shape_of(list(before.values())))
    check_whose(case, function, names, wanted)


def check_whose(case, function, names, wanted):
    """Spoil what was handed in and what was told: nothing that is told later is otherwise."""
    if wanted[0] != "told":
        return
    handed = {name: copy.deepcopy(value) for name, value in names.items()}
    told = function(**handed)
    spoil(list(handed.values()))
    case.assertEqual(shape_of(told), wanted[1], names)
    spoil(told)
    again = function(**names)
    case.assertEqual(shape_of(again), wanted[1], names)
    if isinstance(again, list):
        case.assertIsNot(again, function(**names))
