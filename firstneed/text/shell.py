"""A shell: commands as strings, and their answers."""

from firstneed.base.books import check_book
from firstneed.errors import InvalidBook, InvalidNumber, InvalidOperation, InvalidTerm, ParseError, TooMany, UnknownWord
from firstneed.text.commands import COMMANDS


def done(book, command):
    """The book behind a command, and the answer to it."""
    word, blank, rest = command.partition(" ")
    if word not in COMMANDS:
        raise ParseError(None)
    action = COMMANDS[word]
    return action(book, rest if blank else None)


def answered(book, command):
    """The same, where errors of the package are answers, too."""
    try:
        return done(book, command)
    except ParseError:
        return (book, "error ParseError")
    except InvalidTerm:
        return (book, "error InvalidTerm")
    except InvalidBook:
        return (book, "error InvalidBook")
    except InvalidNumber:
        return (book, "error InvalidNumber")
    except UnknownWord:
        return (book, "error UnknownWord")
    except TooMany:
        return (book, "error TooMany")


def check_command(command):
    """Refuses what is no string."""
    if not isinstance(command, str):
        raise InvalidOperation("a command is a string")


class Shell:
    """A shell with a book."""

    def __init__(self, book):
        check_book(book)
        self._book = book
        self._answers = []

    @property
    def book(self):
        """The book."""
        return self._book

    @property
    def answers(self):
        """The pairs of a command and its answer."""
        return tuple(self._answers)

    def run(self, command):
        """Does what a command tells, and returns the answer."""
        check_command(command)
        self._book, answer = answered(self._book, command)
        self._answers.append((command, answer))
        return answer

    def run_all(self, *commands):
        """The answers to commands, one behind the other."""
        for command in commands:
            check_command(command)
        found = []
        for command in commands:
            found.append(self.run(command))
        return tuple(found)
