"""The forms of entries, and how they are told."""

from firstneed.need.classes import is_class_in
from firstneed.need.forms import ascends, is_class_form, is_state_form
from firstneed.need.heads import bits_of, numbers_in
from firstneed.need.tables import is_below, is_state_in


def is_entry_form(value):
    """Whether the value has the form of an entry, whatever the book is."""
    if not isinstance(value, tuple) or len(value) != 4:
        return False
    row, flag, state, around = value
    if not is_class_form(row) or not isinstance(flag, bool) or not is_state_form(state):
        return False
    return isinstance(around, tuple) and all([is_state_form(one) for one in around]) and ascends(around)


def is_entry_in(maker, value):
    """Whether the value is an entry of parts and classes of the book."""
    if not is_entry_form(value) or not is_class_in(maker.frame, value[0]):
        return False
    return all([is_state_in(maker, state) for state in (value[2], *value[3])])


def is_bad(entry):
    """Whether there is work, and each state around has results."""
    return entry[1] and all([len(state[1]) > 0 for state in entry[3]])


def has_bad_sets(entry):
    """Whether an entry that is told by sets is bad."""
    _, flag, _, around = entry
    return flag and all([state[1] != 0 for state in around])


def covers(entry, other):
    """Whether an entry covers another one."""
    if entry[:3] != other[:3]:
        return False
    return all([any([is_below(beside, state) for beside in other[3]]) for state in entry[3]])


def entry_told(maker, entry):
    """The entry as it is told by tuples."""
    row, flag, state, around = entry
    return (numbers_in(row), flag, maker.tuples_of(state), tuple(sorted([maker.tuples_of(one) for one in around])))


def entry_sets(maker, entry):
    """The entry that is told by these tuples."""
    row, flag, state, around = entry
    return (bits_of(row), flag, maker.sets_of(state), tuple([maker.sets_of(one) for one in around]))
