"""A net as a text, and back."""

from springways.errors import NetError, NoNet
from springways.net import MOST_PLACES, Net

PLACES = "places"
OPENED = "pipe"
SHUT = "shut"


def shown(net):
    size = net.size()
    lines = [f"{PLACES} {size}\n"]
    for start, goal, opened in net.pipes():
        word = OPENED if opened else SHUT
        lines.append(f"{word} {start} {goal}\n")
    return "".join(lines)


def number(word):
    # Held against what would be written, so that no other spelling of a number gets through.
    for value in range(MOST_PLACES + 1):
        if str(value) == word:
            return value
    raise NoNet(f"no number of a net: {word!r}")


def first_line(line):
    words = line.split(" ")
    if len(words) != 2 or words[0] != PLACES:
        raise NoNet(f"no first line of a net: {line!r}")
    return Net(number(words[1]))


def lay_line(net, line):
    words = line.split(" ")
    if len(words) != 3 or words[0] not in (OPENED, SHUT):
        raise NoNet(f"no line of a pipe: {line!r}")
    pipe = net.lay(number(words[1]), number(words[2]))
    if words[0] == SHUT:
        net.shut(pipe)


def read(text):
    lines = text.split("\n")
    if lines[-1] != "":
        raise NoNet("no line end at the end")
    try:
        net = first_line(lines[0])
        for line in lines[1:-1]:
            lay_line(net, line)
    except NetError as error:
        # What the net itself refuses is here a text that is no net.
        raise NoNet(str(error)) from None
    return net
