"""Machines that read a stack from its bottom: a value for the empty stack, and a step for each letter put on top."""


def read_heights(stack, start, step):
    """What the stack comes to, if the empty one comes to start: a list with a value for each height, from 0 on."""
    # A tall stack comes to the same few values again and again.
    steps = {}
    values = [start]
    for letter in reversed(stack):
        value = values[-1]
        if (value, letter) not in steps:
            steps[value, letter] = step(value, letter)
        values.append(steps[value, letter])
    return values


def read(stack, start, step):
    """What the whole stack comes to, if the empty one comes to start."""
    return read_heights(stack, start, step)[-1]


def explored(start, letters, step):
    """All that stacks come to: triples of a value, the first stack that comes to it, and the numbers of its steps.

    The values stand in the order in which they are reached first, so that their
    first stacks ascend; the steps tell for each letter the number of the triple
    that it leads to.
    """
    numbers = {start: 0}
    reached = [(start, ())]
    rows = []
    while len(rows) < len(reached):
        value, stack = reached[len(rows)]
        steps = []
        for letter in range(letters):
            above = step(value, letter)
            if above not in numbers:
                numbers[above] = len(reached)
                reached.append((above, (letter, *stack)))
            steps.append(numbers[above])
        rows.append((value, stack, tuple(steps)))
    return rows
