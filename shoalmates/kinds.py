"""Kinds of things that are looked at before anything is done with them."""


def is_number(thing):
    """Tell whether a thing is a whole number from 0; True and False are none."""
    return isinstance(thing, int) and not isinstance(thing, bool) and thing >= 0


def is_tuple_of(thing, many):
    """Tell whether a thing is a tuple of so many."""
    return isinstance(thing, tuple) and len(thing) == many


def are_rising(numbers):
    """Tell whether each number is greater than the one ahead of it."""
    return all([low < high for low, high in zip(numbers, numbers[1:])])
