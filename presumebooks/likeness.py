"""Likeness: what can be seen of runs of one house if nobody tells what a fall has left."""

from presumebooks.books import Book, check_pair
from presumebooks.errors import BadBook
from presumebooks.kinds import is_list
from presumebooks.search import Course, run_back, search
from presumebooks.standings import first

# The number of the group that has the standing at the beginning alone.
BEGINNING = 0


def seen(deed):
    """What can be seen of a deed: the number of records left behind a fall cannot."""
    if deed[0] == "down":
        return ("down",)
    if deed[0] == "fall":
        return ("fall", 0)
    return deed


class Watch:
    """What can be seen of the runs of one house by a book.

    Behind what was seen stands one of a group of standings, as a fall can have left more or less. The groups are
    numbered as they come up.
    """

    def __init__(self, book):
        self._course = Course(book)
        self._groups = [(first(1),)]
        self._numbers = {self._groups[BEGINNING]: BEGINNING}
        self._ways = {}

    def ways(self, number):
        """The dict from all that can be seen next, behind the group of this number, to the group behind it."""
        if number not in self._ways:
            self._ways[number] = self._ways_from(self._groups[number])
        return self._ways[number]

    def _ways_from(self, group):
        """As ways, of a group that is looked at for the first time."""
        behind = {}
        for standing in group:
            for deed, other in self._course.moves(standing):
                behind.setdefault(seen(deed), {})[other] = True
        return {sight: self._number(tuple(sorted(behind[sight]))) for sight in behind}

    def _number(self, group):
        """The number of a group, the next one if it has none."""
        if group not in self._numbers:
            self._numbers[group] = len(self._groups)
            self._groups.append(group)
        return self._numbers[group]


def group_behind(ways, thing):
    """The group behind any value as what is seen next, None if it cannot be seen."""
    # A bool is no number, though it equals one.
    if not isinstance(thing, tuple) or any([isinstance(item, bool) for item in thing]):
        return None
    for sight in ways:
        if sight == thing:
            return ways[sight]
    return None


def is_outside(book, thing):
    """Whether any value is the outside of some run of one house."""
    if not isinstance(book, Book):
        raise BadBook("book")
    if not is_list(thing):
        return False
    watch = Watch(book)
    number = BEGINNING
    for item in thing:
        number = group_behind(watch.ways(number), item)
        if number is None:
            return False
    return True


def parting(one, other):
    """A shortest outside that the first book has and the second one has not, None if it has each one."""
    check_pair(one, other)
    watched, beside = Watch(one), Watch(other)

    def follow(pair):
        number, number_beside = pair
        ways_beside = beside.ways(number_beside)
        return [(sight, (way, ways_beside.get(sight))) for sight, way in watched.ways(number).items()]

    found, came = search((BEGINNING, BEGINNING), follow, lambda pair: pair[1] is None)
    if found is None:
        return None
    return run_back(came, found)


def do_alike(one, other):
    """Whether both books have the same outsides."""
    return parting(one, other) is None and parting(other, one) is None
