"""What the chair and the houses can do, and what each deed leads to."""

from presumebooks.books import OUTCOMES, beginnings, log_behind
from presumebooks.kinds import is_number
from presumebooks.standings import EMPTY_LOG

# What is in the memory behind a fall, by the last record left.
CHAIR_LEFT = {"begin": "no", "yes": "yes", "no": "no"}
HOUSE_LEFT = {"ready": "ready", "agreed": "yes", "refused": "no"}
# The deeds with the number of a house, some of which are done by the chair.
HOUSE_WORDS = ("answer", "clear", "fall", "hear", "refuse", "tell", "vote")
# The memories of a house that has done with the deal.
ENDED = ("yes", "no", "empty")


def chair_moves(book, chair):
    """What the chair can do: triples of the deed, what all houses must have done for it, and the chair behind it.

    What they must have done is "vote", or the outcome that they must have answered, or None.
    """
    memory, log, decided = chair
    if memory == "new":
        return [(("ask",), None, ("asking", log_behind(book.begin, log, "begin"), decided))]
    moves = []
    if memory == "asking":
        moves.append((("decide", "no"), None, ("no", log_behind(book.no, log, "no"), decided)))
        moves.append((("decide", "yes"), "vote", ("yes", log_behind(book.yes, log, "yes"), True)))
    if memory in OUTCOMES:
        awaited = memory if memory in book.answers else None
        moves.append((("forget",), awaited, ("gone", EMPTY_LOG, decided)))
    for left in beginnings(log):
        records, safe = left
        remembered = CHAIR_LEFT[records[-1]] if records else "gone"
        moves.append((("down", safe), None, (remembered, left, decided)))
    return moves


def has_done(house, awaited):
    """Whether a house has done what the chair waits for, as chair_moves tells it."""
    _, _, voted, _, answered, _, _ = house
    if awaited == "vote":
        return voted
    return awaited is None or awaited in answered


def has_asked(chair):
    """Whether the chair has asked, which it does once."""
    return chair[0] != "new"


def outcome_told(book, chair):
    """The outcome that the chair tells, None if it tells none."""
    memory, _, _ = chair
    if memory in OUTCOMES:
        return memory
    if memory == "gone" and book.presume != "wait":
        return book.presume
    return None


def and_one(outcomes, outcome):
    """The ascending tuple of these outcomes and one more."""
    return tuple([one for one in OUTCOMES if one == outcome or one in outcomes])


def agreed_house(book, house):
    """The house behind carrying the deal out."""
    _, log, voted, told, answered, _, dropped = house
    return ("yes", log_behind(book.agreed, log, "agreed"), voted, told, answered, True, dropped)


def refused_house(book, house):
    """The house behind letting the deal go."""
    _, log, voted, told, answered, took, _ = house
    return ("no", log_behind(book.refused, log, "refused"), voted, told, answered, took, True)


def fallen_house(house, left):
    """The house behind a fall that leaves this log."""
    memory, _, voted, told, answered, took, dropped = house
    records, _ = left
    if records:
        return (HOUSE_LEFT[records[-1]], left, voted, told, answered, took, dropped)
    return ("empty", left, voted, told, answered, took, dropped or memory != "empty")


def letter_moves(book, house):
    """What a house can do by what it was told, as house_moves tells it."""
    memory, log, voted, told, answered, took, dropped = house
    moves = []
    for outcome in told:
        if outcome == "no" and memory in ("idle", "ready"):
            moves.append(("hear", ("no",), refused_house(book, house)))
        if outcome == "yes" and memory == "ready":
            moves.append(("hear", ("yes",), agreed_house(book, house)))
        if outcome not in answered and memory in ENDED:
            both = and_one(answered, outcome)
            moves.append(("answer", (outcome,), (memory, log, voted, told, both, took, dropped)))
    return moves


def house_moves(book, house, asked, outcome):
    """What can be done with a house when the chair has asked or not, and tells this outcome, or None: triples of the
    word of the deed, a tuple of what stands in it behind the number of the house, and the house behind it.
    """
    memory, log, voted, told, answered, took, dropped = house
    moves = letter_moves(book, house)
    if memory == "idle":
        moves.append(("refuse", (), refused_house(book, house)))
        if asked:
            ready = ("ready", log_behind(book.ready, log, "ready"), True, told, answered, took, dropped)
            moves.append(("vote", (), ready))
    if outcome is not None and outcome not in told:
        moves.append(("tell", (), (memory, log, voted, and_one(told, outcome), answered, took, dropped)))
    if memory in OUTCOMES:
        moves.append(("clear", (), ("empty", EMPTY_LOG, voted, told, answered, took, dropped)))
    for left in beginnings(log):
        moves.append(("fall", (left[1],), fallen_house(house, left)))
    return moves


def moves_of_chair(book, standing):
    """All deeds of the chair that can be done, but for tellings, as pairs of the deed and the standing behind it."""
    chair, houses = standing
    moves = []
    for deed, awaited, other in chair_moves(book, chair):
        if all([has_done(house, awaited) for house in houses]):
            moves.append((deed, (other, houses)))
    return moves


def moves_of_house(book, standing, k):
    """All deeds with the number k of a house that can be done, as pairs of the deed and the standing behind it."""
    chair, houses = standing
    moves = []
    for word, rest, other in house_moves(book, houses[k], has_asked(chair), outcome_told(book, chair)):
        moves.append(((word, k, *rest), (chair, (*houses[:k], other, *houses[k + 1 :]))))
    return moves


def moves_at(book, standing):
    """All deeds that can be done, as pairs of the deed and the standing behind it."""
    moves = moves_of_chair(book, standing)
    for k in range(len(standing[1])):
        moves.extend(moves_of_house(book, standing, k))
    return moves


def step(book, standing, thing):
    """The standing behind any value as deed, None if it is no deed that can be done."""
    # A bool is no number, though it equals one.
    if not isinstance(thing, tuple) or any([isinstance(item, bool) for item in thing]):
        return None
    moves = []
    if len(thing) < 2 or thing[0] not in HOUSE_WORDS:
        moves = moves_of_chair(book, standing)
    elif is_number(thing[1], 0, len(standing[1]) - 1):
        moves = moves_of_house(book, standing, thing[1])
    for deed, other in moves:
        if deed == thing:
            return other
    return None
