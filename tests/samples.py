"""Nets for the tests, and what the document says of them, worked out in a plain, slow way."""

import itertools
import random

from springways.net import Net


def net_of(size, rows):
    """A net with the pipes (start, goal, opened) of rows."""
    net = Net(size)
    for start, goal, opened in rows:
        pipe = net.lay(start, goal)
        if not opened:
            net.shut(pipe)
    return net


def full_net():
    """A net with all 60 pipes that may be laid, in 12 places."""
    return net_of(12, [(at % 12, (at + 1 + at // 12) % 12, True) for at in range(60)])


def small_nets():
    """Every net of three places with at most one pipe each way: none, shut or open."""
    pairs = [(start, goal) for start in range(3) for goal in range(3) if start != goal]
    for states in itertools.product((None, False, True), repeat=len(pairs)):
        rows = [pair + (state,) for pair, state in zip(pairs, states) if state is not None]
        yield net_of(3, rows)


def mixed_nets():
    """Nets of all sizes, the same ones in each run: some thin, some with many pipes."""
    source = random.Random(20)
    for turn in range(300):
        size = 1 + turn % 12
        rows = []
        many = source.choice((size, 2 * size, source.randrange(61))) if size > 1 else 0
        for step in range(many):
            start, goal = source.sample(range(size), 2)
            rows.append((start, goal, source.random() < 0.8))
        yield net_of(size, rows)


def all_nets():
    yield from small_nets()
    yield from mixed_nets()


def wet_places(size, rows):
    """The places that water comes to, by going over all pipes until nothing is new."""
    wet = {0}
    for step in range(size):
        wet |= {goal for start, goal, opened in rows if opened and start in wet}
    return sorted(wet)


def without(rows, pipe):
    """The rows with one pipe shut."""
    return [(start, goal, opened and at != pipe) for at, (start, goal, opened) in enumerate(rows)]


def needed_pipes(size, rows, place):
    """Point 4 word by word, for each pipe there is."""
    if place not in wet_places(size, rows):
        return []
    return [at for at in range(len(rows)) if place not in wet_places(size, without(rows, at))]


def is_way(rows, row, place):
    """Whether row is a way to the place, as point 3 says."""
    if len(set(row)) != len(row):
        return False
    at = 0
    for pipe in row:
        if not 0 <= pipe < len(rows):
            return False
        start, goal, opened = rows[pipe]
        if not opened or start != at:
            return False
        at = goal
    return at == place
