"""The form of a paper: what stands in its places (points 15 and 16), whatever kinds of values these are."""


def is_number(thing, below):
    """Whether this is a whole number from 0 on, less than this one."""
    return isinstance(thing, int) and not isinstance(thing, bool) and 0 <= thing < below


def is_tuple_of(thing, many):
    """Whether this is a tuple of so many things."""
    return isinstance(thing, tuple) and len(thing) == many


def is_return(duel, pair):
    """Whether this is a pair of a state and a rank that some state has."""
    if not is_tuple_of(pair, 2) or not is_number(pair[0], len(duel.sides)):
        return False
    return is_number(pair[1], 3) and pair[1] in duel.ranks


def is_claim(duel, claim):
    """Whether this is a claim as a paper tells it."""
    if not isinstance(claim, tuple) or not all(is_return(duel, pair) for pair in claim):
        return False
    return all(one < other for one, other in zip(claim, claim[1:]))


def is_entry(duel, entry):
    """Whether this is an entry, but for what its answers are."""
    if not is_tuple_of(entry, 4):
        return False
    state, letter, claim, answers = entry
    if not is_number(state, len(duel.sides)) or not is_number(letter, duel.letters):
        return False
    return is_claim(duel, claim) and isinstance(answers, tuple)


def entries_in_form(duel, paper):
    """For each entry of a paper whether it is in form."""
    earlier = set()
    in_form = []
    for entry in paper:
        good = is_entry(duel, entry) and entry[:3] not in earlier
        if good:
            earlier.add(entry[:3])
        in_form.append(good)
    return in_form


def is_answer(answer, row, entries):
    """Whether this is an answer in the form of its move of the row, in a paper of so many entries."""
    if not isinstance(answer, tuple) or len(answer) < 2 or not is_number(answer[1], len(row)):
        return False
    if not isinstance(answer[0], str):
        return False
    word = row[answer[1]][1]
    if len(word) == 0:
        return answer[0] == "pop" and len(answer) == 2
    if not is_number(answer[2] if len(answer) > 2 else None, entries):
        return False
    if len(word) == 1:
        return answer[0] == "change" and len(answer) == 3
    return answer[0] == "push" and len(answer) == 4 and are_returns(answer[3], entries)


def are_returns(returns, entries):
    """Whether these are triples (state, rank, entry) of whole numbers, the last one that of an entry."""
    if not isinstance(returns, tuple):
        return False
    return all(
        is_tuple_of(told, 3) and is_number(told[0], 3) and is_number(told[1], 3) and is_number(told[2], entries)
        for told in returns
    )
