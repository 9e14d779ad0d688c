import unittest

from springways.errors import NoPlace
from springways.net import Net
from springways.water import entering, reached
from springways.wide import ways, widest
from tests.samples import (all_nets, all_ways, enter_count, few_pipes_nets, full_net, is_way, least_entering,
                           mixed_nets, most_disjoint, net_of, small_nets, tree_nets)

FAR = 10 ** 30
# The shortest way, by the pipes 0, 1, 2, stands athwart the two that go together, by 0, 6, 7, 8 and by 3, 4, 5, 2.
ATHWART = [(0, 1, True), (1, 2, True), (2, 3, True), (0, 4, True), (4, 5, True), (5, 2, True), (1, 6, True),
           (6, 7, True), (7, 3, True)]


def line_net():
    return net_of(12, [(at, at + 1, True) for at in range(11)])


class WideCase(unittest.TestCase):
    def assert_ways(self, net, place, many, rows):
        self.assertIs(type(rows), list)
        self.assertEqual(len(rows), many)
        for row in rows:
            self.assertIs(type(row), list)
            self.assertTrue(is_way(net.pipes(), row, place), (net.pipes(), row, place))
        together = [pipe for row in rows for pipe in row]
        self.assertEqual(len(set(together)), len(together), (net.pipes(), rows))

    def assert_set(self, net, place, places):
        self.assertIs(type(places), list)
        self.assertEqual(places, sorted(set(places)))
        self.assertLessEqual(set(places), set(range(1, net.size())))
        self.assertIn(place, places)

    def assert_told(self, net, place, many, greatest):
        told = ways(net, place, many)
        self.assertIs(type(told), tuple)
        self.assertEqual(len(told), 2)
        if many <= greatest:
            self.assertEqual(told[0], "ways", (net.pipes(), place, many))
            self.assert_ways(net, place, many, told[1])
        else:
            self.assertEqual(told[0], "narrow", (net.pipes(), place, many))
            self.assert_set(net, place, told[1])
            self.assertLess(enter_count(net.pipes(), told[1]), many)

    def assert_widest(self, net, place, greatest):
        told = widest(net, place)
        self.assertIs(type(told), tuple)
        self.assertEqual(len(told), 3)
        self.assertIs(type(told[0]), int)
        self.assertEqual(told[0], greatest, (net.pipes(), place))
        self.assert_ways(net, place, greatest, told[1])
        self.assert_set(net, place, told[2])
        self.assertEqual(enter_count(net.pipes(), told[2]), greatest)

    def assert_all(self, net, place, greatest):
        for many in range(9):
            self.assert_told(net, place, many, greatest)
        self.assert_widest(net, place, greatest)


class OrdinaryTest(WideCase):
    def test_the_only_answers(self):
        net = net_of(3, [(0, 1, True), (1, 2, True)])
        self.assertEqual(ways(net, 2, 1), ("ways", [[0, 1]]))
        self.assertEqual(ways(net, 1, 1), ("ways", [[0]]))
        self.assertEqual(ways(net, 1, 2)[0], "narrow")
        self.assertEqual(widest(net, 1)[:2], (1, [[0]]))
        self.assertEqual(widest(net_of(2, [(0, 1, True)]), 1), (1, [[0]], [1]))
        self.assertEqual(ways(net_of(2, [(0, 1, True)]), 1, 2), ("narrow", [1]))

    def test_for_nought_a_list_without_ways(self):
        for net in (Net(2), Net(12), net_of(8, ATHWART), full_net(), line_net()):
            for place in range(1, net.size()):
                self.assertEqual(ways(net, place, 0), ("ways", []))

    def test_nets_without_pipes(self):
        for size in (2, 12):
            for place in range(1, size):
                self.assert_all(Net(size), place, 0)

    def test_a_later_search_lays_anew(self):
        self.assert_all(net_of(8, ATHWART), 3, 2)
        told = widest(net_of(8, ATHWART), 3)[1]
        self.assertEqual(sorted(told), [[0, 6, 7, 8], [3, 4, 5, 2]])

    def test_lays_anew_in_any_order_of_the_pipes(self):
        for turn in range(9):
            rows = ATHWART[turn:] + ATHWART[:turn]
            self.assert_all(net_of(8, rows), 3, 2)
            self.assert_all(net_of(8, rows[::-1]), 3, 2)

    def test_lays_anew_twice(self):
        # Two shortest ways stand athwart; with three pipes out of the spring three ways go.
        rows = ATHWART + [(0, 8, True), (8, 9, True), (9, 10, True), (10, 6, True), (4, 7, True), (6, 11, True),
                          (11, 3, True)]
        net = net_of(12, rows)
        self.assert_all(net, 3, least_entering(12, rows)[3])
        self.assertEqual(widest(net, 3)[0], 3)

    def test_pipes_alike(self):
        net = net_of(3, [(0, 1, True)] * 5 + [(1, 2, True)] * 3)
        self.assert_all(net, 1, 5)
        self.assert_all(net, 2, 3)
        self.assertEqual(sorted(ways(net, 1, 5)[1]), [[0], [1], [2], [3], [4]])

    def test_shut_pipes_do_not_count(self):
        net = net_of(2, [(0, 1, True), (0, 1, False), (0, 1, True), (0, 1, False)])
        self.assert_all(net, 1, 2)
        self.assertEqual(sorted(widest(net, 1)[1]), [[0], [2]])

    def test_rings_and_pipes_into_the_spring(self):
        rows = [(0, 1, True), (1, 2, True), (2, 0, True), (2, 1, True), (1, 0, True), (0, 2, True), (2, 3, True),
                (3, 2, True), (3, 0, True), (1, 3, True)]
        net = net_of(4, rows)
        for place in range(1, 4):
            self.assert_all(net, place, 2)

    def test_a_ring_that_no_water_comes_to(self):
        net = net_of(5, [(0, 1, True), (2, 3, True), (3, 4, True), (4, 2, True), (4, 1, True), (3, 0, True)])
        for place in (2, 3, 4):
            self.assert_all(net, place, 0)
        self.assert_all(net, 1, 1)

    def test_a_dry_place_has_a_set_that_nothing_enters(self):
        net = net_of(4, [(0, 1, True), (1, 2, False), (3, 2, True), (2, 3, True)])
        for place in (2, 3):
            self.assertEqual(widest(net, place), (0, [], [2, 3]))
            self.assertEqual(ways(net, place, 1), ("narrow", [2, 3]))

    def test_a_long_line_and_back(self):
        net = line_net()
        for at in range(11):
            net.lay(at + 1, at)
        for place in range(1, 12):
            self.assert_all(net, place, 1)

    def test_up_to_sixty_between_two_places(self):
        for many in (0, 1, 8, 9, 30, 59, 60):
            net = net_of(2, [(0, 1, True)] * many + [(1, 0, True)] * (60 - many))
            self.assert_all(net, 1, many)
            for asked in (many - 1, many, many + 1, 61):
                if asked >= 0:
                    self.assert_told(net, 1, asked, many)

    def test_numbers_beyond_eight_are_not_refused(self):
        net = full_net()
        for many in (9, 10, 11, 20):
            self.assert_told(net, 7, many, 5)
        self.assert_told(net_of(2, [(0, 1, True)] * 12), 1, 9, 12)
        self.assert_told(net_of(2, [(0, 1, True)] * 12), 1, 12, 12)
        self.assert_told(net_of(2, [(0, 1, True)] * 12), 1, 13, 12)

    def test_below_nought_is_not_refused(self):
        # Neither ways nor a narrow set can be: the answer is not promised, only that there is one.
        for net in (Net(2), net_of(8, ATHWART), full_net()):
            self.assertIs(type(ways(net, 1, -1)), tuple)

    def test_sixty_pipes_in_twelve_places(self):
        net = full_net()
        least = least_entering(12, net.pipes())
        for place in range(1, 12):
            self.assertEqual(least[place], 5)
            self.assert_all(net, place, 5)


class SearchTest(WideCase):
    def test_against_all_sets_of_places(self):
        for net in all_nets():
            least = least_entering(net.size(), net.pipes())
            for place in range(1, net.size()):
                self.assert_all(net, place, least[place])

    def test_nets_with_many_ways(self):
        for turn, (many, net) in enumerate(tree_nets()):
            place = 1 + turn % (net.size() - 1)
            greatest = widest(net, place)[0]
            self.assertGreaterEqual(greatest, many)
            self.assert_all(net, place, greatest)

    def test_against_all_ways(self):
        for net in list(small_nets())[::4] + [net for net in few_pipes_nets() if len(net.pipes()) < 8]:
            for place in range(1, net.size()):
                greatest = most_disjoint(list(all_ways(net.pipes(), place)))
                self.assert_all(net, place, greatest)

    def test_as_many_and_one_more(self):
        for net in mixed_nets():
            for place in range(1, net.size()):
                greatest = widest(net, place)[0]
                self.assertEqual(ways(net, place, greatest)[0], "ways")
                self.assertEqual(ways(net, place, greatest + 1)[0], "narrow")
                self.assertEqual(greatest > 0, place in reached(net))

    def test_with_one_pipe_shut(self):
        for net in list(mixed_nets())[::5]:
            for place in range(1, net.size()):
                greatest, rows, places = widest(net, place)
                for pipe, row in enumerate(net.pipes()):
                    if row[2]:
                        bounds = entering(net, places)
                        net.shut(pipe)
                        less = widest(net, place)[0]
                        net.reopen(pipe)
                        self.assertIn(less, (greatest - 1, greatest))
                        if pipe in bounds:
                            self.assertEqual(less, greatest - 1)


class RefusedTest(unittest.TestCase):
    def test_no_place(self):
        for net in (Net(1), Net(2), net_of(8, ATHWART), full_net()):
            before = (net.size(), net.pipes())
            size = net.size()
            for wrong in (size, size + 1, -1, -size, -size - 1, FAR, -FAR):
                for many in (0, 1, 8, 9):
                    with self.assertRaises(NoPlace, msg=wrong) as caught:
                        ways(net, wrong, many)
                    self.assertIs(type(caught.exception), NoPlace)
                with self.assertRaises(NoPlace, msg=wrong) as caught:
                    widest(net, wrong)
                self.assertIs(type(caught.exception), NoPlace)
            self.assertEqual((net.size(), net.pipes()), before)


class TogetherTest(WideCase):
    def test_arguments_bear_their_names(self):
        net = net_of(2, [(0, 1, True)])
        self.assertEqual(ways(net=net, place=1, many=1), ("ways", [[0]]))
        self.assertEqual(widest(net=net, place=1), (1, [[0]], [1]))

    def test_the_net_stays_as_it_was(self):
        for net in all_nets():
            before = (net.size(), net.pipes())
            for place in range(1, net.size()):
                for many in (0, 1, 2, 8):
                    ways(net, place, many)
                widest(net, place)
            self.assertEqual((net.size(), net.pipes()), before)

    def test_lists_given_back_are_free(self):
        net = net_of(8, ATHWART)
        before = net.pipes()
        first = (ways(net, 3, 2), ways(net, 3, 3), ways(net, 3, 0), widest(net, 3))
        again = (ways(net, 3, 2), ways(net, 3, 3), ways(net, 3, 0), widest(net, 3))
        for row in again[0][1] + again[3][1]:
            row.append(99)
            row[0] = 77
        for told in (again[0][1], again[1][1], again[2][1], again[3][1], again[3][2]):
            told.append(55)
            told[0] = 44
        self.assertEqual((ways(net, 3, 2), ways(net, 3, 3), ways(net, 3, 0), widest(net, 3)), first)
        self.assertEqual(net.pipes(), before)

    def test_answers_do_not_follow_the_net(self):
        net = net_of(2, [(0, 1, True)])
        told = (ways(net, 1, 1), ways(net, 1, 2), widest(net, 1))
        net.lay(0, 1)
        net.shut(0)
        self.assertEqual(told, (("ways", [[0]]), ("narrow", [1]), (1, [[0]], [1])))

    def test_the_net_as_it_is_then(self):
        net = Net(3)
        self.assert_all(net, 2, 0)
        net.lay(1, 2)
        self.assert_all(net, 2, 0)
        net.lay(0, 1)
        self.assert_all(net, 2, 1)
        net.lay(0, 2)
        self.assert_all(net, 2, 2)
        net.shut(1)
        self.assert_all(net, 2, 1)
        self.assertEqual(ways(net, 2, 1), ("ways", [[2]]))
        net.shut(2)
        self.assert_all(net, 2, 0)
        net.reopen(1)
        self.assert_all(net, 2, 1)
        self.assertEqual(ways(net, 2, 1), ("ways", [[1, 0]]))

    def test_answers_follow_each_step_of_a_long_row(self):
        net = full_net()
        for step in range(60):
            pipe = step * 37 % 60
            if net.pipes()[pipe][2]:
                net.shut(pipe)
            else:
                net.reopen(pipe)
            place = 1 + step % 11
            self.assert_all(net, place, least_entering(12, net.pipes())[place])


if __name__ == "__main__":
    unittest.main()
