"""How many ways lead to a place with no pipe in two of them, and the set of places that bounds their number."""

from springways.net import check_place
from springways.water import open_pipes, ways_through


def turned(pipes, used):
    # To go through a used pipe backward is to take it out of the way it stands in, so it is shown the other way round.
    return [(row[1], row[0]) if pipe in used else (row[0], row[1]) for pipe, row in enumerate(pipes)]


def switch(used, row):
    for pipe in row:
        if pipe in used:
            used.pop(pipe)
        else:
            used[pipe] = True


def parted(pipes, used, place, count):
    # As many used pipes lead into each place on the way as out of it, also when one way is taken out: so a next one is
    # there until all are found.
    rows = []
    left = sorted(used)
    for step in range(count):
        row = ways_through(pipes, left)[place]
        rows.append(row)
        left = [pipe for pipe in left if pipe not in row]
    return rows


def ways_apart(pipes, usable, place, many):
    # The ways are told apart at the end alone: each search may lay anew what the earlier ones took.
    used = {}
    count = 0
    while count < many:
        found = ways_through(turned(pipes, used), usable)
        if place not in found:
            break
        switch(used, found[place])
        count += 1
    return parted(pipes, used, place, count)


def bounding(net, rows):
    # Where no way more can be laid beside the rows, every open pipe into these places is used, and none that leads out
    # of them: so just as many enter as there are rows.
    pipes = net.pipes()
    used = {}
    for row in rows:
        switch(used, row)
    found = ways_through(turned(pipes, used), open_pipes(pipes))
    return [place for place in range(net.size()) if place not in found]


def ways(net, place, many):
    check_place(net, place)
    pipes = net.pipes()
    rows = ways_apart(pipes, open_pipes(pipes), place, many)
    if len(rows) < many:
        return ("narrow", bounding(net, rows))
    return ("ways", rows)


def widest(net, place):
    check_place(net, place)
    pipes = net.pipes()
    # Each way has a pipe of its own, so there are no more ways than pipes.
    rows = ways_apart(pipes, open_pipes(pipes), place, len(pipes))
    return (len(rows), rows, bounding(net, rows))
