"""Trees: pipes by which alone water comes to every place, and how many there are with no pipe in two of them."""

from springways.net import SPRING, check_pipe
from springways.water import open_pipes, ways_through
from springways.wide import ways, ways_apart, widest


def is_tree(net, pipes):
    for pipe in pipes:
        check_pipe(net, pipe)
    laid = net.pipes()
    if not all([laid[pipe][2] for pipe in pipes]):
        return False
    goals = sorted([laid[pipe][1] for pipe in pipes])
    return goals == list(range(1, net.size())) and len(ways_through(laid, pipes)) == net.size()


def without(pipes, taken):
    return [pipe for pipe in pipes if pipe not in taken]


def can_spare(laid, left, pipe, many):
    # Only sets with the pipe's goal in them lose a pipe that enters, so no other place has to be asked.
    return len(ways_apart(laid, without(left, [pipe]), laid[pipe][1], many)) == many


def next_pipe(laid, left, wet, many):
    # One is always found (Lovasz's proof of Edmonds' theorem on branchings): each set of places that the tree has not
    # come into is entered by more than many of the pipes left, each other one by many at least.
    for pipe in left:
        if laid[pipe][0] in wet and laid[pipe][1] not in wet and can_spare(laid, left, pipe, many):
            return pipe
    return None


def grown(net, left, many):
    # A tree that is taken without care may leave no next one: so the pipes left keep many ways to each place.
    laid = net.pipes()
    tree = []
    wet = {SPRING: True}
    while len(wet) < net.size():
        pipe = next_pipe(laid, without(left, tree), wet, many)
        tree.append(pipe)
        wet[laid[pipe][1]] = True
    return sorted(tree)


def trees_apart(net, many):
    left = open_pipes(net.pipes())
    trees = []
    for count in range(many):
        tree = grown(net, left, many - count - 1)
        trees.append(tree)
        left = without(left, tree)
    return trees


def apart(net, many):
    for place in range(1, net.size()):
        told = ways(net, place, many)
        if told[0] == "narrow":
            return told
    return ("trees", trees_apart(net, many))


def most_apart(net):
    told = [widest(net, place) for place in range(1, net.size())]
    # A net with one place has no greatest number; it is not promised an answer, but not refused either.
    least = min(told, key=lambda row: row[0], default=(0, [], []))
    return (least[0], trees_apart(net, least[0]), least[2])
