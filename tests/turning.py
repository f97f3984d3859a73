"""Papers turned in some places, and duels in one, for the tests."""

from tests.stacks import with_rows
from towerduel.duels import Duel

# What may come into any place. Some of it can't be hashed or compared.
STRANGE = (
    None, "", "pop", "change", "push", "x", b"pop", -1, -2, -10**12, True, False, 10**12, 0.0, 1.0, 2.5, 1j,
    [], {}, set(), (), (0,), (0, 0), (0, 1), (0, 0, 0), ((0, 0),), [0, 0], [(0, 0)], ((0, 0), ("pop", 0)),
    object(), (None,), ([],), ((),), (True, 0), ("pop", 0), ["pop", 0], ("pop", True), ("change", 0, 0),
    ("push", 0, 0, ()), ("push", 0, 0, ((0, 0, 0),)), (0, 0, (), ()), (0, 0, ((0, 0),), (("pop", 0),)),
)


def places(thing, way=()):
    """The ways to all that stands in tuples of tuples."""
    for place, inner in enumerate(thing):
        yield (*way, place)
        if isinstance(inner, tuple):
            yield from places(inner, (*way, place))


def at(thing, way):
    for place in way:
        thing = thing[place]
    return thing


def put(thing, way, what):
    """The tuple with the things of what in place of the one to which the way leads."""
    place, *rest = way
    return (*thing[:place], *(what if not rest else [put(thing[place], rest, what)]), *thing[place + 1:])


def turned(drawer, paper):
    """The paper turned in one place."""
    ways = list(places(paper))
    if not ways or drawer.number(40) == 0:
        return (*paper, drawer.one_of(STRANGE))
    way = drawer.one_of(ways)
    old = at(paper, way)
    kind = drawer.number(10)
    if kind < 2:
        return put(paper, way, [drawer.one_of(STRANGE)])
    if kind == 2:
        return put(paper, way, [])
    if kind == 3:
        return put(paper, way, [old, old])
    if kind == 4:
        return put(paper, way, [at(paper, drawer.one_of(ways))])
    if kind == 5:
        return exchanged(drawer, paper, way)
    if kind == 6 and isinstance(old, tuple):
        return put(paper, way, [drawer.one_of(((*old, drawer.one_of(STRANGE)), list(old), old[1:], old[::-1]))])
    if isinstance(old, int):
        return put(paper, way, [drawer.one_of((old + 1, old - 1, drawer.number(len(paper) + 2), drawer.number(3)))])
    return put(paper, way, [drawer.one_of((at(paper, drawer.one_of(ways)), drawer.one_of(paper)))])


def exchanged(drawer, paper, way):
    """The paper with what stands there and something beside it in each other's place."""
    beside = at(paper, way[:-1])
    other = (*way[:-1], drawer.number(len(beside)))
    old, new = at(paper, way), at(paper, other)
    return put(put(paper, way, [new]), other, [old])


def reached(paper, numbers):
    """The numbers of these entries and of all that their steps lead to, ascending."""
    found = set()
    waiting = list(numbers)
    while waiting:
        number = waiting.pop()
        if number not in found:
            found.add(number)
            for answer in paper[number][3]:
                waiting += answer[2:3]
                if answer[0] == "push":
                    waiting += [entry for _, _, entry in answer[3]]
    return sorted(found)


def taken_out(paper, numbers):
    """The paper of just these entries, in this order, of which none leads to another one."""
    new = {number: place for place, number in enumerate(numbers)}

    def told_anew(answer):
        if answer[0] == "pop":
            return answer
        if answer[0] == "change":
            return (*answer[:2], new[answer[2]])
        return (*answer[:2], new[answer[2]], tuple((state, rank, new[entry]) for state, rank, entry in answer[3]))

    return tuple((*paper[number][:3], tuple(told_anew(answer) for answer in paper[number][3])) for number in numbers)


def near(duel, drawer):
    """The duel with one thing drawn anew: a row, a move, a rank, a side or an end."""
    rows = with_rows(duel, lambda spot, row: row)
    heads = [list(head) for head in (duel.sides, duel.ranks, duel.ends)]
    kind = drawer.number(8)
    states, letters = len(duel.sides), duel.letters
    spot = drawer.number(states), drawer.number(letters)
    if kind < 4:
        heads[(0, 1, 1, 2)[kind]][drawer.number(states)] = drawer.number(3 if kind in (1, 2) else 2)
    elif kind < 6:
        rows[spot] = drawer.row(states, letters)
    else:
        place = drawer.number(3)
        rows[spot] = tuple(dict.fromkeys(rows[spot][:place] + (drawer.move(states, letters),) + rows[spot][place + 1:]))
    return Duel(*[tuple(head) for head in heads], letters, rows)
