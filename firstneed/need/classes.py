"""The classes of terms, and the results."""

from firstneed.base.books import check_book
from firstneed.base.checks import check_rule, check_term, check_word
from firstneed.base.terms import MAX_NODES, Term
from firstneed.base.words import is_index, is_word
from firstneed.errors import InvalidNumber, InvalidOperation, TooMany
from firstneed.need.forms import ascends, is_class_form
from firstneed.need.heads import Frame, bits_of, grown_results, least_choices, least_nodes, numbers_in

MAX_SIZE = 7


def parts_of(book):
    """The parts of a book."""
    check_book(book)
    return tuple([Term(nodes) for nodes in Frame(book).part_nodes])


def class_of(book, term):
    """The class of a term."""
    check_book(book)
    check_term(term, book.symbols)
    return numbers_in(Frame(book).class_of(term.nodes))


def is_class_in(frame, value):
    """Whether the value is an ascending tuple of indices of the parts."""
    return is_class_form(value) and all([number < len(frame.part_nodes) for number in value])


def check_classes(frame, classes, arity):
    """Refuses what is no tuple of so many classes."""
    if not isinstance(classes, tuple) or len(classes) != arity or not all([is_class_in(frame, row) for row in classes]):
        raise InvalidOperation("these are not as many classes as there are arguments")


def mask_made(frame, word, classes):
    """The items of a symbol that ask no more of the arguments than these classes."""
    return frame.heads[word].meeting([bits_of(row) for row in classes])


def class_made(book, word, classes):
    """The class of a term with this symbol as the root and arguments of these classes."""
    check_book(book)
    check_word(word, book.symbols)
    frame = Frame(book)
    check_classes(frame, classes, book.symbols[word])
    return numbers_in(frame.heads[word].parts_at(mask_made(frame, word, classes)))


def is_redex_made(book, word, classes):
    """Whether such a term is a redex."""
    check_book(book)
    check_word(word, book.symbols)
    frame = Frame(book)
    check_classes(frame, classes, book.symbols[word])
    return frame.heads[word].is_redex(mask_made(frame, word, classes))


def fires(book, rule, classes):
    """Whether a term with the first symbol of this pattern and arguments of these classes is a redex by the rule."""
    check_book(book)
    check_rule(rule, book.rules)
    frame = Frame(book)
    word, arity = frame.pattern_nodes[rule][0]
    check_classes(frame, classes, arity)
    return rule in frame.heads[word].rules_at(mask_made(frame, word, classes))


def is_class(book, value):
    """Whether the value is an ascending tuple of indices of the parts."""
    check_book(book)
    return is_class_in(Frame(book), value)


def is_result(book, term):
    """Whether a term is a result."""
    check_book(book)
    return book.is_result(term)


def result_classes(book):
    """The classes of all results, ascending."""
    check_book(book)
    return tuple(sorted([numbers_in(bits) for bits in grown_results(Frame(book))]))


def least_result(book, value):
    """A result of this class with the fewest nodes."""
    check_book(book)
    frame = Frame(book)
    grown = grown_results(frame)
    if not is_class_in(frame, value) or bits_of(value) not in grown:
        raise InvalidOperation("this is no class of results")
    if grown[bits_of(value)][0] > MAX_NODES:
        raise TooMany(MAX_NODES)
    return Term(least_nodes(grown, bits_of(value)))


def results_upto(book, size):
    """All results with at most so many nodes, ascending by their sizes, and then by their texts."""
    check_book(book)
    if not is_index(size, MAX_SIZE + 1):
        raise InvalidNumber(size)
    frame = Frame(book)
    levels = [[]]
    for count in range(1, size + 1):
        levels.append(sorted(results_of_size(frame, levels, count)))
        for _, nodes, _ in levels[count]:
            yield Term(nodes)


def results_of_size(frame, levels, size):
    """The triples of text, nodes and class of the results of this size; all smaller ones are told by their sizes."""
    arities = sorted({head.arity for head in frame.heads.values()})
    rows = {arity: argument_rows(levels, arity, size - 1) for arity in arities}
    found = []
    for word, head in frame.heads.items():
        for row in rows[head.arity]:
            mask = head.meeting([bits for _, _, bits in row])
            if not head.is_redex(mask):
                text, nodes = put_together(word, row)
                found.append((text, nodes, head.parts_at(mask)))
    return found


def argument_rows(levels, arity, total):
    """All rows of so many results that have so many nodes in all."""
    if arity == 0:
        return [[]] if total == 0 else []
    found = []
    for size in range(1, total - arity + 2):
        behind = argument_rows(levels, arity - 1, total - size)
        found.extend([[first, *others] for first in levels[size] for others in behind])
    return found


def put_together(word, row):
    """The text and the nodes of a symbol with these arguments."""
    inner = ", ".join([text for text, _, _ in row])
    nodes = [(word, len(row))]
    for _, further, _ in row:
        nodes.extend(further)
    return (f"{word}({inner})" if row else word, tuple(nodes))


def result_paper(book):
    """A dict from the classes of results to what they are made of: a symbol and classes of results."""
    check_book(book)
    grown = grown_results(Frame(book))
    rows = {numbers_in(bits): (word, tuple([numbers_in(inner) for inner in classes]))
            for bits, (_, word, classes) in grown.items()}
    return {row: rows[row] for row in sorted(rows)}


def is_result_paper(book, value):
    """Whether the value is such a dict, in which ranks can be given to the classes."""
    check_book(book)
    frame = Frame(book)
    classes = [numbers_in(bits) for bits in grown_results(frame)]
    if not isinstance(value, dict) or len(value) != len(classes):
        return False
    if not all([is_class_form(row) and row in classes for row in value]):
        return False
    return all([is_made_of(frame, classes, row, value[row]) for row in value]) and has_ranks(value)


def is_made_of(frame, classes, row, value):
    """Whether the value is a symbol with classes of which it makes this one without a redex."""
    if not isinstance(value, tuple) or len(value) != 2 or not is_word(value[0]) or value[0] not in frame.heads:
        return False
    word, below = value
    head = frame.heads[word]
    if not isinstance(below, tuple) or len(below) != head.arity:
        return False
    if not all([is_class_form(inner) and inner in classes for inner in below]):
        return False
    mask = mask_made(frame, word, below)
    return not head.is_redex(mask) and numbers_in(head.parts_at(mask)) == row


def has_ranks(rows):
    """Whether each class can be made of classes that are made ahead of it."""
    made = {}
    going = True
    while going:
        ready = [row for row in rows if row not in made and all([inner in made for inner in rows[row][1]])]
        for row in ready:
            made[row] = True
        going = len(ready) > 0
    return len(made) == len(rows)


def is_closed_row(book, value):
    """Whether the value is an ascending tuple of classes that has all that is made of them without a redex."""
    check_book(book)
    frame = Frame(book)
    if not isinstance(value, tuple) or not all([is_class_in(frame, row) for row in value]) or not ascends(value):
        return False
    sets = [bits_of(row) for row in value]
    return all([row in value for head in frame.heads.values() for row in all_made(head, sets)])


def all_made(head, sets):
    """The classes that a symbol makes of these without a redex."""
    options = [[(head.passing(at, bits), 0, bits) for bits in sets] for at in range(head.arity)]
    masks = list(least_choices(head.whole, options, True))
    return [numbers_in(head.parts_at(mask)) for mask in masks if not head.is_redex(mask)]
