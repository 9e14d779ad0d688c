import unittest

from springways.errors import NoPipe, NoPlace, SamePlace, TooMuch
from springways.net import Net
from tests.samples import full_net, net_of

FAR = 10 ** 30


class SizeTest(unittest.TestCase):
    def test_each_size_from_1_to_12_is_taken(self):
        for size in range(1, 13):
            net = Net(size)
            self.assertEqual(net.size(), size)
            self.assertEqual(net.pipes(), [])

    def test_other_sizes_are_too_much(self):
        for size in (0, 13, -1, -12, 14, 60, 1000, FAR, -FAR):
            with self.assertRaises(TooMuch, msg=size):
                Net(size)

    def test_laying_does_not_change_the_size(self):
        self.assertEqual(full_net().size(), 12)

    def test_arguments_bear_their_names(self):
        net = Net(size=2)
        self.assertEqual(net.lay(start=0, goal=1), 0)
        self.assertIsNone(net.shut(pipe=0))
        self.assertIsNone(net.reopen(pipe=0))
        self.assertEqual(net.pipes(), [(0, 1, True)])


class LayTest(unittest.TestCase):
    def assert_refused(self, net, start, goal, error):
        before = net.pipes()
        size = net.size()
        with self.assertRaises(error, msg=(start, goal)) as caught:
            net.lay(start, goal)
        self.assertIs(type(caught.exception), error)
        self.assertEqual(net.pipes(), before)
        self.assertEqual(net.size(), size)

    def test_numbers_come_by_count_from_nought(self):
        net = Net(4)
        ends = [(0, 1), (3, 2), (2, 0), (1, 3)]
        self.assertEqual([net.lay(start, goal) for start, goal in ends], [0, 1, 2, 3])
        self.assertEqual(net.pipes(), [(0, 1, True), (3, 2, True), (2, 0, True), (1, 3, True)])

    def test_several_alike_and_both_ways(self):
        net = Net(2)
        ends = [(0, 1), (0, 1), (1, 0), (0, 1), (1, 0)]
        self.assertEqual([net.lay(start, goal) for start, goal in ends], [0, 1, 2, 3, 4])
        self.assertEqual(net.pipes(), [(start, goal, True) for start, goal in ends])

    def test_numbers_go_on_behind_a_shut_pipe_and_a_refused_one(self):
        net = Net(3)
        net.lay(0, 1)
        net.shut(0)
        self.assert_refused(net, 1, 1, SamePlace)
        self.assert_refused(net, 1, 3, NoPlace)
        self.assertEqual(net.lay(1, 2), 1)
        self.assertEqual(net.pipes(), [(0, 1, False), (1, 2, True)])

    def test_the_sixtieth_is_laid_and_the_next_is_too_much(self):
        net = Net(2)
        self.assertEqual([net.lay(at % 2, 1 - at % 2) for at in range(60)], list(range(60)))
        self.assert_refused(net, 0, 1, TooMuch)
        self.assert_refused(net, 1, 0, TooMuch)
        self.assertEqual(len(net.pipes()), 60)

    def test_shut_pipes_count_among_the_sixty(self):
        net = full_net()
        for pipe in range(60):
            net.shut(pipe)
        self.assert_refused(net, 0, 1, TooMuch)

    def test_no_place_as_start_and_as_goal(self):
        for size in (1, 3, 12):
            for wrong in (size, size + 1, -1, -size, -size - 1, FAR, -FAR):
                net = Net(size)
                self.assert_refused(net, wrong, 0, NoPlace)
                self.assert_refused(net, 0, wrong, NoPlace)

    def test_the_last_place_is_a_place(self):
        net = Net(12)
        self.assertEqual(net.lay(11, 0), 0)
        self.assertEqual(net.lay(0, 11), 1)

    def test_same_place(self):
        for size in (1, 3, 12):
            for place in range(size):
                self.assert_refused(Net(size), place, place, SamePlace)

    def test_no_place_comes_ahead_of_same_place(self):
        for wrong in (3, -1, FAR):
            self.assert_refused(Net(3), wrong, wrong, NoPlace)

    def test_no_place_comes_ahead_of_too_much(self):
        net = full_net()
        for wrong in (12, -1, FAR):
            self.assert_refused(net, wrong, 0, NoPlace)
            self.assert_refused(net, 0, wrong, NoPlace)

    def test_no_place_comes_first_of_all_three(self):
        for wrong in (12, -1, FAR):
            self.assert_refused(full_net(), wrong, wrong, NoPlace)

    def test_same_place_comes_ahead_of_too_much(self):
        net = full_net()
        for place in range(12):
            self.assert_refused(net, place, place, SamePlace)


class ShutTest(unittest.TestCase):
    def test_shut_and_reopen_give_none_once_and_again(self):
        net = net_of(3, [(0, 1, True), (1, 2, True), (2, 0, True)])
        for turn in range(2):
            self.assertIsNone(net.shut(1))
            self.assertEqual(net.pipes(), [(0, 1, True), (1, 2, False), (2, 0, True)])
        for turn in range(2):
            self.assertIsNone(net.reopen(1))
            self.assertEqual(net.pipes(), [(0, 1, True), (1, 2, True), (2, 0, True)])

    def test_an_open_pipe_may_be_reopened(self):
        net = net_of(2, [(0, 1, True)])
        self.assertIsNone(net.reopen(0))
        self.assertEqual(net.pipes(), [(0, 1, True)])

    def test_each_of_sixty(self):
        for pipe in range(60):
            net = full_net()
            expected = net.pipes()
            start, goal, opened = expected[pipe]
            expected[pipe] = (start, goal, False)
            net.shut(pipe)
            self.assertEqual(net.pipes(), expected)

    def test_of_pipes_alike_one_alone_is_shut(self):
        net = net_of(2, [(0, 1, True), (0, 1, True), (0, 1, True)])
        net.shut(1)
        self.assertEqual(net.pipes(), [(0, 1, True), (0, 1, False), (0, 1, True)])

    def test_no_pipe(self):
        three = [(0, 1, True), (1, 2, False), (1, 0, True)]
        for rows in (three, three[:1], []):
            many = len(rows)
            for wrong in (-1, -many - 1, many, many + 1, 59, 60, FAR, -FAR):
                net = net_of(3, rows)
                for call in (net.shut, net.reopen):
                    with self.assertRaises(NoPipe, msg=(rows, wrong)) as caught:
                        call(wrong)
                    self.assertIs(type(caught.exception), NoPipe)
                    self.assertEqual(net.pipes(), rows)

    def test_nought_is_no_pipe_where_none_is_laid(self):
        for call in (Net(1).shut, Net(1).reopen, Net(12).shut, Net(12).reopen):
            with self.assertRaises(NoPipe):
                call(0)

    def test_another_net_stays_as_it_is(self):
        one = net_of(3, [(0, 1, True), (1, 2, False)])
        other = net_of(3, [(0, 1, True), (1, 2, False)])
        one.shut(0)
        one.reopen(1)
        one.lay(2, 0)
        self.assertEqual(other.pipes(), [(0, 1, True), (1, 2, False)])
        self.assertEqual(one.pipes(), [(0, 1, False), (1, 2, True), (2, 0, True)])


class PipesTest(unittest.TestCase):
    def test_kinds(self):
        told = net_of(3, [(0, 1, True), (2, 1, False)]).pipes()
        self.assertIs(type(told), list)
        for row in told:
            self.assertIs(type(row), tuple)
            self.assertEqual([type(value) for value in row], [int, int, bool])
        self.assertIs(told[0][2], True)
        self.assertIs(told[1][2], False)

    def test_kinds_stay_behind_shut_and_reopen(self):
        net = net_of(2, [(0, 1, True)])
        net.shut(0)
        self.assertIs(type(net.pipes()[0]), tuple)
        self.assertIs(net.pipes()[0][2], False)
        net.reopen(0)
        self.assertIs(net.pipes()[0][2], True)

    def test_a_told_list_is_free(self):
        net = net_of(3, [(0, 1, True), (1, 2, False)])
        told = net.pipes()
        told.append((2, 0, True))
        told[0] = (2, 1, False)
        self.assertEqual(net.pipes(), [(0, 1, True), (1, 2, False)])
        self.assertEqual(net.lay(0, 2), 2)

    def test_a_told_list_does_not_follow_the_net(self):
        net = net_of(3, [(0, 1, True)])
        told = net.pipes()
        net.shut(0)
        net.lay(1, 2)
        self.assertEqual(told, [(0, 1, True)])


if __name__ == "__main__":
    unittest.main()
