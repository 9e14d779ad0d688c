"""Nets for the tests, and what the document says of them, worked out in a plain, slow way."""

import itertools
import random

from springways.net import Net


def net_of(size, rows):
    """A net with the pipes (start, goal, opened) of rows."""
    net = Net(size)
    for start, goal, opened in rows:
        pipe = net.lay(start, goal)
        if not opened:
            net.shut(pipe)
    return net


def full_net():
    """A net with all 60 pipes that may be laid, in 12 places."""
    return net_of(12, [(at % 12, (at + 1 + at // 12) % 12, True) for at in range(60)])


def small_nets():
    """Every net of three places with at most one pipe each way: none, shut or open."""
    pairs = [(start, goal) for start in range(3) for goal in range(3) if start != goal]
    for states in itertools.product((None, False, True), repeat=len(pairs)):
        rows = [pair + (state,) for pair, state in zip(pairs, states) if state is not None]
        yield net_of(3, rows)


def mixed_nets():
    """Nets of all sizes, the same ones in each run: some thin, some with many pipes."""
    source = random.Random(20)
    for turn in range(300):
        size = 1 + turn % 12
        rows = []
        many = source.choice((size, 2 * size, source.randrange(61))) if size > 1 else 0
        for step in range(many):
            start, goal = source.sample(range(size), 2)
            rows.append((start, goal, source.random() < 0.8))
        yield net_of(size, rows)


def all_nets():
    yield from small_nets()
    yield from mixed_nets()


def few_pipes_nets():
    """Nets with so few pipes that all sets of them can be gone over, several alike among them."""
    source = random.Random(8)
    for turn in range(150):
        size = 2 + turn % 4
        rows = []
        for step in range(source.randrange(4, 10)):
            start, goal = source.sample(range(size), 2)
            rows.append((start, goal, source.random() < 0.9))
        yield net_of(size, rows)


def tree_rows(source, size):
    """The pipes of one tree, which comes to the places in a mixed order."""
    order = list(range(1, size))
    source.shuffle(order)
    wet = [0]
    rows = []
    for place in order:
        rows.append((source.choice(wet), place, True))
        wet.append(place)
    return rows


def tree_nets():
    """Pairs of a number and a net that was made of so many trees, some with pipes more, in a mixed order of pipes."""
    source = random.Random(88)
    for turn in range(240):
        size = 2 + turn % 11
        many = 1 + turn // 11 % 5
        rows = [row for step in range(many) for row in tree_rows(source, size)]
        for step in range(source.choice((0, 0, 3, 60 - len(rows)))):
            if len(rows) < 60:
                start, goal = source.sample(range(size), 2)
                rows.append((start, goal, source.random() < 0.7))
        source.shuffle(rows)
        yield many, net_of(size, rows)


def wet_places(size, rows):
    """The places that water comes to, by going over all pipes until nothing is new."""
    wet = {0}
    for step in range(size):
        wet |= {goal for start, goal, opened in rows if opened and start in wet}
    return sorted(wet)


def without(rows, pipe):
    """The rows with one pipe shut."""
    return [(start, goal, opened and at != pipe) for at, (start, goal, opened) in enumerate(rows)]


def needed_pipes(size, rows, place):
    """Point 4 word by word, for each pipe there is."""
    if place not in wet_places(size, rows):
        return []
    return [at for at in range(len(rows)) if place not in wet_places(size, without(rows, at))]


def is_way(rows, row, place):
    """Whether row is a way to the place, as point 3 says."""
    if len(set(row)) != len(row):
        return False
    at = 0
    for pipe in row:
        if not 0 <= pipe < len(rows):
            return False
        start, goal, opened = rows[pipe]
        if not opened or start != at:
            return False
        at = goal
    return at == place


def enter_count(rows, places):
    """How many open pipes enter the set."""
    return len([1 for start, goal, opened in rows if opened and goal in places and start not in places])


def sets_without_spring(size):
    """Every set of places, one at least, without the spring."""
    for many in range(1, size):
        for places in itertools.combinations(range(1, size), many):
            yield frozenset(places)


def least_entering(size, rows):
    """Of each place but the spring, the least number of open pipes that enter any set with it, without the spring."""
    least = {place: len(rows) for place in range(1, size)}
    for places in sets_without_spring(size):
        count = enter_count(rows, places)
        for place in places:
            least[place] = min(least[place], count)
    return least


def all_ways(rows, place, row=(), at=0):
    """Every way to the place, as a tuple of pipes."""
    if at == place:
        yield row
    for pipe, (start, goal, opened) in enumerate(rows):
        if opened and start == at and pipe not in row:
            yield from all_ways(rows, place, row + (pipe,), goal)


def is_tree_by_words(size, rows, pipes):
    """Point 7 word by word."""
    if not all(rows[pipe][2] for pipe in pipes):
        return False
    alone = [(start, goal, opened and pipe in pipes) for pipe, (start, goal, opened) in enumerate(rows)]
    enter = [len([pipe for pipe in pipes if rows[pipe][1] == place]) for place in range(size)]
    return wet_places(size, alone) == list(range(size)) and enter == [0] + [1] * (size - 1)


def pipe_sets(rows):
    """Every set of pipes, as a tuple."""
    for many in range(len(rows) + 1):
        yield from itertools.combinations(range(len(rows)), many)


def most_disjoint(groups, taken=frozenset()):
    """The greatest number of groups with nothing in two of them, by trying all."""
    best = 0
    for at, group in enumerate(groups):
        if not taken & set(group):
            best = max(best, 1 + most_disjoint(groups[at + 1:], taken | set(group)))
    return best
