"""Searches among the standings of one house."""

from presumebooks.moves import ENDED, and_one, chair_moves, has_asked, has_done, house_moves, outcome_told
from presumebooks.standings import first


class Course:
    """The deeds with one house by a book. Each chair and each house is looked at only once, as the same ones come
    in a great many standings.
    """

    def __init__(self, book):
        self._book = book
        self._of_chairs = {}
        self._of_houses = {}

    def _of_chair(self, chair):
        """What the chair can do, and what it means to the house: whether it has asked, and the outcome it tells."""
        if chair not in self._of_chairs:
            means = (has_asked(chair), outcome_told(self._book, chair))
            self._of_chairs[chair] = (chair_moves(self._book, chair), means)
        return self._of_chairs[chair]

    def _of_house(self, house, means):
        """What can be done with the house: pairs of a deed and the house behind it."""
        key = (house, means)
        if key not in self._of_houses:
            moves = house_moves(self._book, house, *means)
            self._of_houses[key] = [((word, 0, *rest), other) for word, rest, other in moves]
        return self._of_houses[key]

    def moves(self, standing):
        """All deeds that can be done, as pairs of the deed and the standing behind it."""
        chair, (house,) = standing
        of_chair, means = self._of_chair(chair)
        moves = [(deed, (other, (house,))) for deed, awaited, other in of_chair if has_done(house, awaited)]
        moves.extend([(deed, (chair, (other,))) for deed, other in self._of_house(house, means)])
        return moves

    def eager_moves(self, standing):
        """As moves, but all is told and answered at once that can be."""
        return [(deed, self._eager(other)) for deed, other in self.moves(standing)]

    def silent_moves(self, standing):
        """As moves, without tellings."""
        return [(deed, other) for deed, other in self.moves(standing) if deed[0] != "tell"]

    def _eager(self, standing):
        """A standing when all is told and answered that can be."""
        chair, (house,) = standing
        memory, log, voted, told, answered, took, dropped = house
        outcome = outcome_told(self._book, chair)
        if outcome is not None:
            told = and_one(told, outcome)
        if memory in ENDED:
            answered = told
        return (chair, ((memory, log, voted, told, answered, took, dropped),))


def search(start, follow, found):
    """Goes from a standing, or whatever else can be the key of a dict, by layers, wherever follow leads, up to a
    standing that is found.

    follow(standing) is a list of pairs of a deed and the standing behind it. The answer is the standing that is
    found, None if there is none, and a dict from each standing seen to the pair of the one ahead of it and the deed
    between them, in shortest runs; from the first one to None.
    """
    came = {start: None}
    layer = [start]
    while layer:
        coming = []
        for standing in layer:
            if found(standing):
                return (standing, came)
            for deed, other in follow(standing):
                if other not in came:
                    came[other] = (standing, deed)
                    coming.append(other)
        layer = coming
    return (None, came)


def told_standings(book):
    """All standings of one house that come if all is told and answered at once that can be.

    Tellings and answers take away no deed but themselves, so beside each standing that comes there is one of these
    that differs from it in what was told and answered alone.
    """
    course = Course(book)
    _, came = search(first(1), course.eager_moves, lambda standing: False)
    return list(came)


def run_back(came, standing):
    """The run to a standing, by the dict of a search."""
    run = []
    while came[standing] is not None:
        standing, deed = came[standing]
        run.append(deed)
    return run[::-1]
