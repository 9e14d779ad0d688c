"""Where water comes to, by which pipes, and which of them it hangs on."""

from springways.net import SPRING, check_place


def open_pipes(pipes):
    return [pipe for pipe, row in enumerate(pipes) if row[2]]


def ways_through(pipes, usable):
    # Each way is made longer only to a place that has none yet, so no pipe comes twice in one.
    found = {SPRING: []}
    waiting = [SPRING]
    while len(waiting) > 0:
        place = waiting.pop(0)
        for pipe in usable:
            goal = pipes[pipe][1]
            if pipes[pipe][0] == place and goal not in found:
                found[goal] = found[place] + [pipe]
                waiting.append(goal)
    return found


def comes_without(pipes, place, pipe):
    others = [other for other in open_pipes(pipes) if other != pipe]
    return place in ways_through(pipes, others)


def reached(net):
    pipes = net.pipes()
    return sorted(ways_through(pipes, open_pipes(pipes)))


def way(net, place):
    check_place(net, place)
    pipes = net.pipes()
    return ways_through(pipes, open_pipes(pipes)).get(place)


def needed(net, place):
    # Only a pipe of this one way can be needed: with any other shut, the way is still there.
    row = way(net, place)
    if row is None:
        return []
    pipes = net.pipes()
    return [pipe for pipe in sorted(row) if not comes_without(pipes, place, pipe)]


def entering(net, places):
    for place in places:
        check_place(net, place)
    pipes = net.pipes()
    return [pipe for pipe in open_pipes(pipes) if pipes[pipe][0] not in places and pipes[pipe][1] in places]
