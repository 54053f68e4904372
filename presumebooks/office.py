"""A live office: a chair and houses that do deeds one after the other, which can be taken back."""

from presumebooks.books import Book
from presumebooks.deeds import deeds_at
from presumebooks.errors import BadBook, BadDeed, NothingDone
from presumebooks.kinds import is_list
from presumebooks.moves import step
from presumebooks.standings import first


class Block:
    """A block that an office is in: its past at the beginning of the block, and the block around, None for none."""

    def __init__(self, past, around):
        self.past = past
        self.around = around


class Office:
    """The chair and the houses of a deal, with what they have done.

    The past is a tuple of triples: what was done (nothing at first), the book in force and the standing behind it. It
    is never changed, only exchanged for another one, so that a block can go back to the one at its beginning.
    """

    def __init__(self, book, houses):
        if not isinstance(book, Book):
            raise BadBook("book")
        standing = first(houses)
        self._first_book = book
        self._houses = houses
        self._past = ((None, book, standing),)
        self._block = None

    def __eq__(self, other):
        return (
            isinstance(other, Office)
            and self._first_book == other._first_book
            and self._houses == other._houses
            and self.log == other.log
        )

    def __enter__(self):
        self._block = Block(self._past, self._block)
        return self

    def __exit__(self, kind, value, trace):
        if kind is not None:
            self._past = self._block.past
        self._block = self._block.around

    @property
    def book(self):
        """The book in force."""
        return self._past[-1][1]

    @property
    def houses(self):
        """How many houses there are."""
        return self._houses

    @property
    def standing(self):
        """The standing behind all that was done."""
        return self._past[-1][2]

    @property
    def log(self):
        """The list of what stands: deeds and swaps."""
        return [entry for entry, _, _ in self._past[1:]]

    def do(self, deed):
        """Does a deed."""
        self.do_all([deed])

    def do_all(self, deeds):
        """Does all deeds of a list, or none."""
        if not is_list(deeds):
            raise BadDeed(0)
        book = self.book
        standing = self.standing
        done = []
        for at, deed in enumerate(deeds):
            standing = step(book, standing, deed)
            if standing is None:
                raise BadDeed(at)
            done.append((deed, book, standing))
        self._past = (*self._past, *done)

    def undo(self):
        """Takes the last deed or swap back."""
        if len(self._past) == 1:
            raise NothingDone("nothing was done")
        self._past = self._past[:-1]

    def swap(self, book):
        """Has another book from now on; what is written stays."""
        if not isinstance(book, Book):
            raise BadBook("book")
        self._past = (*self._past, (("swap", book), book, self.standing))

    def may(self):
        """The ascending list of the deeds that can be done now."""
        return deeds_at(self.book, self.standing)

    def doubtful(self):
        """The ascending tuple of the numbers of the houses that are ready."""
        _, houses = self.standing
        return tuple([k for k, house in enumerate(houses) if house[0] == "ready"])

    def is_unlike(self):
        """Whether some house took and some house dropped."""
        _, houses = self.standing
        ends = [(took, dropped) for _, _, _, _, _, took, dropped in houses]
        return any([took for took, _ in ends]) and any([dropped for _, dropped in ends])

    def tried(self, work):
        """What the work returns, called with the office within a block."""
        with self:
            return work(self)

    def copy(self):
        """An independent office that has done the same, in no block."""
        other = Office(self._first_book, self._houses)
        other._past = self._past
        return other
