import re
import unittest

from springways.errors import NoNet
from springways.net import Net
from springways.notes import read, shown
from springways.trees import most_apart
from springways.wide import widest
from tests.samples import all_nets, full_net, net_of

SIGNS = "\t\n" + "".join(chr(at) for at in range(32, 127) if chr(at) != "%")
GOOD = "places 3\npipe 0 1\nshut 1 2\npipe 2 0\n"
NUMBER = "(0|[1-9][0-9]?)"


def is_net_text(text):
    """Point 10 by another road than the program's."""
    if not re.fullmatch(f"places {NUMBER}\n((pipe|shut) {NUMBER} {NUMBER}\n)*", text):
        return False
    numbers = [int(word) for word in re.findall("[0-9]+", text)]
    size = numbers[0]
    pairs = list(zip(numbers[1::2], numbers[2::2]))
    return 1 <= size <= 12 and len(pairs) <= 60 and all(a < size and b < size and a != b for a, b in pairs)


class ShownTest(unittest.TestCase):
    def test_nets_without_pipes(self):
        for size in range(1, 13):
            self.assertEqual(shown(Net(size)), "places " + str(size) + "\n")

    def test_open_and_shut_in_the_order_of_their_numbers(self):
        rows = [(2, 1, True), (0, 1, False), (0, 1, True), (1, 0, False)]
        self.assertEqual(shown(net_of(3, rows)), "places 3\npipe 2 1\nshut 0 1\npipe 0 1\nshut 1 0\n")

    def test_numbers_of_two_figures(self):
        rows = [(11, 10, True), (10, 11, False), (9, 10, True), (0, 11, False)]
        self.assertEqual(shown(net_of(12, rows)), "places 12\npipe 11 10\nshut 10 11\npipe 9 10\nshut 0 11\n")

    def test_sixty_pipes_open_and_shut(self):
        net = full_net()
        for pipe in range(0, 60, 3):
            net.shut(pipe)
        expected = ["places 12"]
        for pipe in range(60):
            word = "shut" if pipe % 3 == 0 else "pipe"
            expected.append(word + " " + str(pipe % 12) + " " + str((pipe + 1 + pipe // 12) % 12))
        self.assertEqual(shown(net), "\n".join(expected) + "\n")

    def test_the_net_as_it_is_then(self):
        net = Net(2)
        self.assertEqual(shown(net), "places 2\n")
        net.lay(0, 1)
        self.assertEqual(shown(net), "places 2\npipe 0 1\n")
        net.shut(0)
        self.assertEqual(shown(net), "places 2\nshut 0 1\n")
        net.reopen(0)
        net.lay(1, 0)
        self.assertEqual(shown(net), "places 2\npipe 0 1\npipe 1 0\n")

    def test_kinds_and_names_of_arguments(self):
        self.assertIs(type(shown(net=Net(1))), str)
        self.assertIs(type(read(text="places 1\n")), Net)


class ReadTest(unittest.TestCase):
    def test_a_plain_net(self):
        net = read(GOOD)
        self.assertEqual((net.size(), net.pipes()), (3, [(0, 1, True), (1, 2, False), (2, 0, True)]))

    def test_many_nets_there_and_back(self):
        for net in all_nets():
            before = (net.size(), net.pipes())
            text = shown(net)
            self.assertTrue(is_net_text(text), text)
            again = read(text)
            self.assertEqual((again.size(), again.pipes()), before)
            self.assertEqual(shown(again), text)
            self.assertEqual((net.size(), net.pipes()), before)

    def test_sixty_pipes(self):
        for net in (full_net(), net_of(2, [(0, 1, True), (1, 0, False)] * 30)):
            again = read(shown(net))
            self.assertEqual((again.size(), again.pipes()), (net.size(), net.pipes()))
            for row in again.pipes():
                self.assertEqual([type(value) for value in row], [int, int, bool])

    def test_what_is_read_is_a_net_like_others(self):
        net = read("places 3\npipe 0 1\nshut 0 2\npipe 1 2\n")
        self.assertEqual(net.lay(2, 1), 3)
        net.reopen(1)
        self.assertEqual(widest(net, 2)[0], 2)
        self.assertEqual(most_apart(net)[0], 2)
        self.assertEqual(shown(net), "places 3\npipe 0 1\npipe 0 2\npipe 1 2\npipe 2 1\n")

    def test_one_net_does_not_follow_the_other(self):
        net = net_of(3, [(0, 1, True), (1, 2, False)])
        text = shown(net)
        again = read(text)
        third = read(text)
        net.shut(0)
        net.lay(2, 0)
        again.reopen(1)
        self.assertEqual(net.pipes(), [(0, 1, False), (1, 2, False), (2, 0, True)])
        self.assertEqual(again.pipes(), [(0, 1, True), (1, 2, True)])
        self.assertEqual(third.pipes(), [(0, 1, True), (1, 2, False)])
        self.assertEqual(read(text).pipes(), [(0, 1, True), (1, 2, False)])


class RefusedTest(unittest.TestCase):
    def assert_refused(self, text):
        with self.assertRaises(NoNet, msg=repr(text)) as caught:
            read(text)
        self.assertIs(type(caught.exception), NoNet)

    def assert_by_the_words(self, text):
        if is_net_text(text):
            self.assertEqual(shown(read(text)), text)
        else:
            self.assert_refused(text)

    def test_without_signs_and_line_ends_alone(self):
        for text in ("", "\n", "\n\n", " ", " \n", "\t", "\t\n"):
            self.assert_refused(text)

    def test_no_line_end_at_the_end(self):
        for text in ("places 1", "places 12", GOOD[:-1], "places 2\npipe 0 1"):
            self.assert_refused(text)

    def test_blanks_and_tabs(self):
        for text in ("places  1\n", " places 1\n", "places 1 \n", "places1\n", "places\t1\n", "places 1\t\n",
                     "places 2\npipe  0 1\n", "places 2\npipe 0  1\n", "places 2\n pipe 0 1\n", "places 2\npipe 0 1 \n",
                     "places 2\npipe 01\n", "places 2\npipe0 1\n", "places 2\npipe\t0 1\n", "places 2\npipe 0\t1\n",
                     "places 2\n\tpipe 0 1\n", "places 2\npipe 0 1\t\n", "places 2\npipe 0 1\n "):
            self.assert_refused(text)

    def test_empty_lines(self):
        for text in ("\nplaces 2\n", "places 2\n\n", "places 2\n\npipe 0 1\n", "places 2\npipe 0 1\n\n",
                     "places 2\npipe 0 1\n\npipe 0 1\n", "places 2\npipe 0 1\n\n\n"):
            self.assert_refused(text)

    def test_numbers_written_otherwise(self):
        for size in ("01", "02", "00", "012", "001", "+1", "-1", "-0", "1.", "1.0", "1_2", "x", "1x", "0x1", "one", "''"):
            self.assert_refused("places " + size + "\n")
        for place in ("01", "00", "001", "+1", "-1", "-0", "1.", "1_1", "x", "1x", "0x1", "one", "100", "011", "'1'"):
            for word in ("pipe", "shut"):
                self.assert_refused("places 12\n" + word + " " + place + " 2\n")
                self.assert_refused("places 12\n" + word + " 2 " + place + "\n")

    def test_figures_of_other_scripts(self):
        for text in ("places \u0661\n", "places \u00b2\n", "places 3\npipe \u0660 1\n", "places \uff12\n"):
            self.assert_refused(text)

    def test_other_row_ends(self):
        for text in ("places 1\r\n", "places 1\r", "places 2\r\npipe 0 1\r\n", "places 2\vpipe 0 1\n",
                     "places 2\x0cpipe 0 1\n", "places 1\n\r", "places 1\u2028"):
            self.assert_refused(text)

    def test_sizes(self):
        for size in range(1, 13):
            self.assertEqual(read("places " + str(size) + "\n").size(), size)
        for size in (0, 13, 14, 20, 60, 99, 100, 112, 10 ** 30):
            self.assert_refused("places " + str(size) + "\n")

    def test_no_place(self):
        for size in (1, 3, 12):
            for wrong in (size, size + 1, 13, 99, 100, 10 ** 30):
                for word in ("pipe", "shut"):
                    self.assert_refused(f"places {size}\n{word} 0 {wrong}\n")
                    self.assert_refused(f"places {size}\n{word} {wrong} 0\n")
                    self.assert_refused(f"places {size}\n{word} {wrong} {wrong}\n")

    def test_same_place(self):
        for size in (1, 3, 12):
            for place in range(size):
                for word in ("pipe", "shut"):
                    self.assert_refused(f"places {size}\n{word} {place} {place}\n")

    def test_a_sixty_first_pipe(self):
        for line in ("pipe 0 1\n", "shut 0 1\n"):
            self.assertEqual(len(read("places 2\n" + line * 60).pipes()), 60)
            for many in (61, 62, 100, 200):
                self.assert_refused("places 2\n" + line * many)
        self.assert_refused(shown(full_net()) + "shut 0 1\n")
        self.assert_refused(shown(full_net()) + "pipe 0 0\n")

    def test_first_lines(self):
        for text in ("pipe 0 1\n", "pipe 0 1\nplaces 2\n", "places 2\nplaces 2\n", "places 2\nplaces 2\npipe 0 1\n",
                     "places 2\npipe 0 1\nplaces 2\n", "place 2\n", "size 2\n", "2\n", "places\n", "places \n",
                     "places 2 2\n", "places 2 pipes 1\n", "shut 2\n", "pipe 2\n", "net\nplaces 2\n"):
            self.assert_refused(text)

    def test_letters_in_another_case(self):
        for text in ("Places 2\n", "PLACES 2\n", "placeS 2\n", "places 2\nPipe 0 1\n", "places 2\nPIPE 0 1\n",
                     "places 2\nShut 0 1\n", "places 2\nSHUT 0 1\n", "places 2\nshuT 0 1\n"):
            self.assert_refused(text)

    def test_words_too_many_and_too_few(self):
        for text in ("places 2\npipe 0\n", "places 2\npipe\n", "places 2\n0 1\n", "places 2\npipe 0 1 1\n",
                     "places 2\npipe 0 1 open\n", "places 2\nshut\n", "places 2\nshut pipe 0 1\n",
                     "places 2\npipe 0 1 pipe 1 0\n", "places 2\nopen 0 1\n", "places 2\npipes 0 1\n",
                     "places 2 pipe 0 1\n", "places 2\npipe 0 \n", "places 2\npipe  1\n"):
            self.assert_refused(text)

    def test_each_sign_left_out_put_in_or_changed(self):
        for text in (GOOD, "places 12\nshut 10 1\n"):
            self.assert_by_the_words(text)
            for at in range(len(text) + 1):
                self.assert_by_the_words(text[:at] + text[at + 1:])
                self.assert_by_the_words(text[:at])
                self.assert_by_the_words(text[at:])
                for sign in SIGNS:
                    self.assert_by_the_words(text[:at] + sign + text[at:])
                    self.assert_by_the_words(text[:at] + sign + text[at + 1:])

    def test_lines_mixed(self):
        lines = ("places 2\n", "places 12\n", "pipe 0 1\n", "shut 1 0\n", "pipe 1 2\n", "pipe 1 1\n", "\n", "pipe 0 1")
        for first in lines:
            for second in lines:
                for third in lines:
                    self.assert_by_the_words(first + second + third)

    def test_long_texts(self):
        for sign in SIGNS:
            self.assert_refused(sign * 2000)
            self.assert_refused("places 2\n" + sign * 1991)
            self.assert_refused("places " + sign * 1992 + "\n")

    def test_a_refused_text_leaves_what_was_read(self):
        net = read(GOOD)
        for text in (GOOD + "pipe 0 0\n", GOOD[:-1], "places 3\nshut 0 1\nshut 0 3\n"):
            self.assert_refused(text)
        self.assertEqual(shown(net), GOOD)
        self.assertEqual(shown(read(GOOD)), GOOD)


if __name__ == "__main__":
    unittest.main()
