"""Points 11, 20 and 21 told a second time, as plainly as can be, for the tests to compare the package with.

A standing is unfolded into lists and dicts, a deed changes these in place, and they are folded again. Nothing here
uses the package, but for the attributes of a book.
"""

from collections import deque

OUTCOMES = ("no", "yes")
HOUSE_PARTS = ("memory", "log", "voted", "told", "answered", "took", "dropped")
ENDED = ("yes", "no", "empty")


def unfold(standing):
    """The chair, a dict, and the list of the houses, dicts, of a standing."""
    memory, log, decided = standing[0]
    chair = {"memory": memory, "log": log, "decided": decided}
    return chair, [dict(zip(HOUSE_PARTS, house)) for house in standing[1]]


def fold(chair, houses):
    """The standing of a chair and its houses."""
    folded = [tuple([house[part] for part in HOUSE_PARTS]) for house in houses]
    return ((chair["memory"], chair["log"], chair["decided"]), tuple(folded))


def write(book, one, record):
    """Writes a record into the log of the chair or of a house."""
    records, safe = one["log"]
    word = getattr(book, record)
    if record not in records and word != "none":
        records = records + (record,)
        one["log"] = (records, len(records) if word == "forced" else safe)


def ask(book, chair, houses):
    if chair["memory"] != "new":
        return False
    chair["memory"] = "asking"
    write(book, chair, "begin")
    return True


def vote(book, chair, houses, k):
    if chair["memory"] == "new" or houses[k]["memory"] != "idle":
        return False
    write(book, houses[k], "ready")
    houses[k].update(memory="ready", voted=True)
    return True


def refuse(book, chair, houses, k):
    if houses[k]["memory"] != "idle":
        return False
    write(book, houses[k], "refused")
    houses[k].update(memory="no", dropped=True)
    return True


def decide(book, chair, houses, outcome):
    if chair["memory"] != "asking":
        return False
    if outcome == "yes":
        for house in houses:
            if not house["voted"]:
                return False
        chair["decided"] = True
    write(book, chair, outcome)
    chair["memory"] = outcome
    return True


def tell(book, chair, houses, k):
    outcome = chair["memory"]
    if outcome == "gone":
        outcome = book.presume
    if outcome not in OUTCOMES or outcome in houses[k]["told"]:
        return False
    houses[k]["told"] = tuple(sorted((*houses[k]["told"], outcome)))
    return True


def hear(book, chair, houses, k, outcome):
    house = houses[k]
    if outcome not in house["told"]:
        return False
    if house["memory"] == "idle" and outcome == "yes" or house["memory"] not in ("idle", "ready"):
        return False
    house["memory"] = outcome
    write(book, house, {"yes": "agreed", "no": "refused"}[outcome])
    house[{"yes": "took", "no": "dropped"}[outcome]] = True
    return True


def answer(book, chair, houses, k, outcome):
    house = houses[k]
    if outcome not in house["told"] or outcome in house["answered"] or house["memory"] not in ENDED:
        return False
    house["answered"] = tuple(sorted((*house["answered"], outcome)))
    return True


def forget(book, chair, houses):
    outcome = chair["memory"]
    if outcome not in OUTCOMES:
        return False
    if outcome in book.answers:
        for house in houses:
            if outcome not in house["answered"]:
                return False
    chair.update(memory="gone", log=((), 0))
    return True


def clear(book, chair, houses, k):
    if houses[k]["memory"] not in OUTCOMES:
        return False
    houses[k].update(memory="empty", log=((), 0))
    return True


def lose(one, left):
    """Loses records of a log by a fall: whether so many can be left."""
    records, safe = one["log"]
    if not safe <= left <= len(records):
        return False
    one["log"] = (records[:left], left)
    return True


def down(book, chair, houses, left):
    if chair["memory"] == "new" or not lose(chair, left):
        return False
    last = "".join(chair["log"][0][-1:])
    chair["memory"] = {"": "gone", "begin": "no", "yes": "yes", "no": "no"}[last]
    return True


def fall(book, chair, houses, k, left):
    house = houses[k]
    if not lose(house, left):
        return False
    if left == 0 and house["memory"] != "empty":
        house["dropped"] = True
    last = "".join(house["log"][0][-1:])
    house["memory"] = {"": "empty", "agreed": "yes", "refused": "no", "ready": "ready"}[last]
    return True


BY_WORD = {
    "answer": answer, "ask": ask, "clear": clear, "decide": decide, "down": down, "fall": fall, "forget": forget,
    "hear": hear, "refuse": refuse, "tell": tell, "vote": vote,
}


def deeds_by_form(houses):
    """All deeds by their form alone, for so many houses, ascending."""
    deeds = [("ask",), ("forget",), ("decide", "no"), ("decide", "yes")]
    deeds.extend([("down", left) for left in range(4)])
    for k in range(houses):
        deeds.extend([(word, k) for word in ("vote", "refuse", "tell", "clear")])
        deeds.extend([(word, k, outcome) for word in ("hear", "answer") for outcome in OUTCOMES])
        deeds.extend([("fall", k, left) for left in range(4)])
    return sorted(deeds)


def model_behind(book, standing, deed):
    """The standing behind a deed by its form, None if it cannot be done."""
    chair, houses = unfold(standing)
    if not BY_WORD[deed[0]](book, chair, houses, *deed[1:]):
        return None
    return fold(chair, houses)


def model_moves(book, standing):
    """The dict from all deeds that can be done, ascending, to the standings behind them."""
    moves = {}
    for deed in deeds_by_form(len(standing[1])):
        other = model_behind(book, standing, deed)
        if other is not None:
            moves[deed] = other
    return moves


def model_first(houses):
    """The standing at the beginning."""
    return (("new", ((), 0), False), (("idle", ((), 0), False, (), (), False, False),) * houses)


def model_graph(book):
    """The dict from all standings of one house that come to their moves."""
    graph = {}
    waiting = [model_first(1)]
    while waiting:
        standing = waiting.pop()
        if standing not in graph:
            graph[standing] = model_moves(book, standing)
            waiting.extend(graph[standing].values())
    return graph


def is_fall(deed):
    """Whether a deed is a fall."""
    return deed[0] in ("down", "fall")


def lengths(graph, weight):
    """The least sum of weights, 0 or 1, of the deeds of a run to each standing of a graph."""
    least = {model_first(1): 0}
    waiting = deque(least)
    while waiting:
        standing = waiting.popleft()
        for deed, other in graph[standing].items():
            length = least[standing] + weight(deed)
            if other not in least or length < least[other]:
                least[other] = length
                (waiting.append if weight(deed) else waiting.appendleft)(other)
    return least


def deeds_to_quiet(graph):
    """The least number of deeds without falls from each standing to one whose house has done with the deal; the
    standings from which none leads there are left out.
    """
    least = {standing: 0 for standing in graph if standing[1][0][0] in ENDED}
    while True:
        more = {}
        for standing, moves in graph.items():
            ways = [least[other] for deed, other in moves.items() if not is_fall(deed) and other in least]
            if standing not in least and ways:
                more[standing] = min(ways) + 1
        if not more:
            return least
        # Only the nearest ones are sure to have no shorter way by standings that are still to come.
        nearest = min(more.values())
        least.update({standing: length for standing, length in more.items() if length == nearest})


def model_breakers(graph):
    """The dict from each wish to the standings of a graph that break it."""
    quiet = deeds_to_quiet(graph)
    found = {"honest": [], "kept": [], "quiet": [], "steady": []}
    for standing in graph:
        decided, took, dropped = standing[0][2], standing[1][0][5], standing[1][0][6]
        found["honest"].extend([standing] * (took and not decided))
        found["kept"].extend([standing] * (dropped and decided))
        found["steady"].extend([standing] * (took and dropped))
        found["quiet"].extend([standing] * (standing not in quiet))
    return found


def model_held(book):
    """The ascending list of the wishes that hold for a book."""
    broken = model_breakers(model_graph(book))
    return [wish for wish in sorted(broken) if not broken[wish]]


def model_run(book, houses, length, turn):
    """A run of so many deeds, another one for each number turn, with the standing behind it."""
    standing = model_first(houses)
    run = []
    for at in range(length):
        moves = model_moves(book, standing)
        # Falls are taken rarely, or little else would be seen.
        deeds = [deed for deed in moves if not is_fall(deed) or (at + turn) % 4 == 0] or list(moves)
        deed = deeds[(turn * 31 + at * at * 7 + at * turn) % len(deeds)]
        run.append(deed)
        standing = moves[deed]
    return run, standing


def model_wrong(book, houses, run):
    """The index of the first of these deeds by their form that cannot be done, None if all can."""
    standing = model_first(houses)
    for at, deed in enumerate(run):
        standing = model_behind(book, standing, deed)
        if standing is None:
            return at
    return None
