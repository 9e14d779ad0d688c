"""The net: places, of which place 0 is the spring, and pipes that are open or shut."""

from springways.errors import NoPipe, NoPlace, SamePlace, TooMuch

SPRING = 0
MOST_PLACES = 12
MOST_PIPES = 60


def check_place(net, place):
    if place < 0 or place >= net.size():
        raise NoPlace(f"no place of the net: {place}")


def check_pipe(net, pipe):
    # An index below nought would reach a pipe from the end of the list.
    if pipe < 0 or pipe >= len(net.pipes()):
        raise NoPipe(f"no pipe has the number {pipe}")


class Net:
    def __init__(self, size):
        if size < 1 or size > MOST_PLACES:
            raise TooMuch(f"a net has 1 to {MOST_PLACES} places, not {size}")
        self.extent = size
        self.laid = []

    def size(self):
        return self.extent

    def lay(self, start, goal):
        # The order of the checks is promised: NoPlace, then SamePlace, then TooMuch.
        check_place(self, start)
        check_place(self, goal)
        if start == goal:
            raise SamePlace(f"a pipe from place {start} to itself")
        if len(self.laid) >= MOST_PIPES:
            raise TooMuch(f"a net has at most {MOST_PIPES} pipes")
        self.laid.append((start, goal, True))
        return len(self.laid) - 1

    def shut(self, pipe):
        self.turn(pipe, False)

    def reopen(self, pipe):
        self.turn(pipe, True)

    def turn(self, pipe, opened):
        check_pipe(self, pipe)
        row = self.laid[pipe]
        self.laid[pipe] = (row[0], row[1], opened)

    def pipes(self):
        # A copy, so that what is done to it later does not reach the net.
        return list(self.laid)
