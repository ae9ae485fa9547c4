"""The forms of classes and states, whatever the book is."""

from firstneed.base.words import is_integer


def are_numbers(value):
    """Whether the value is a tuple of integers of at least 0."""
    return isinstance(value, tuple) and all([is_integer(number) and number >= 0 for number in value])


def ascends(rows):
    """Whether each of these is less than the one behind it."""
    return all([rows[at] < rows[at + 1] for at in range(len(rows) - 1)])


def is_class_form(value):
    """Whether the value is an ascending tuple of indices."""
    return are_numbers(value) and ascends(value)


def are_classes_form(value):
    """Whether the value is an ascending tuple of classes."""
    return isinstance(value, tuple) and all([is_class_form(row) for row in value]) and ascends(value)


def is_state_form(value):
    """Whether the value is a pair of an ascending tuple of indices, and of one of classes."""
    if not isinstance(value, tuple) or len(value) != 2:
        return False
    return is_class_form(value[0]) and are_classes_form(value[1])
