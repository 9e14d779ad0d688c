import unittest

from springways.errors import NoPlace
from springways.net import Net
from springways.water import entering, needed, reached, way
from tests.samples import all_nets, full_net, is_way, mixed_nets, needed_pipes, net_of, small_nets, wet_places, without

FAR = 10 ** 30
# A ring through the spring, a place behind a shut pipe, and a place that only leads out.
RING = [(0, 1, True), (1, 2, True), (2, 0, True), (2, 3, False), (4, 1, True)]


def wrong_places(size):
    return (size, size + 1, -1, -size, -size - 1, FAR, -FAR)


class ReachedTest(unittest.TestCase):
    def test_a_net_of_one_place(self):
        self.assertEqual(reached(Net(1)), [0])

    def test_without_pipes_the_spring_alone(self):
        self.assertEqual(reached(Net(12)), [0])

    def test_a_ring_a_shut_pipe_and_a_pipe_into_the_ring(self):
        self.assertEqual(reached(net_of(5, RING)), [0, 1, 2])

    def test_pipes_lead_one_way(self):
        self.assertEqual(reached(net_of(3, [(1, 0, True), (2, 1, True)])), [0])

    def test_one_of_pipes_alike_is_enough(self):
        self.assertEqual(reached(net_of(2, [(0, 1, False), (0, 1, True)])), [0, 1])

    def test_a_ring_apart_from_the_spring_stays_dry(self):
        self.assertEqual(reached(net_of(4, [(1, 2, True), (2, 3, True), (3, 1, True), (3, 0, True)])), [0])

    def test_rising_where_water_comes_downward(self):
        rows = [(at + 1, at, True) for at in range(1, 11)] + [(0, 11, True)]
        self.assertEqual(reached(net_of(12, rows)), list(range(12)))

    def test_sixty_pipes(self):
        net = full_net()
        self.assertEqual(reached(net), list(range(12)))
        for pipe in range(60):
            net.shut(pipe)
        self.assertEqual(reached(net), [0])

    def test_many_nets(self):
        for net in all_nets():
            self.assertEqual(reached(net), wet_places(net.size(), net.pipes()), net.pipes())


class WayTest(unittest.TestCase):
    def test_the_spring_has_the_row_without_a_pipe(self):
        for net in (Net(1), Net(12), net_of(5, RING), full_net()):
            self.assertEqual(way(net, 0), [])

    def test_the_only_ways(self):
        net = net_of(5, RING)
        self.assertEqual(way(net, 1), [0])
        self.assertEqual(way(net, 2), [0, 1])

    def test_a_long_way(self):
        net = net_of(12, [(at, at + 1, True) for at in reversed(range(11))])
        self.assertEqual(way(net, 11), list(reversed(range(11))))

    def test_none_where_water_does_not_come(self):
        net = net_of(5, RING)
        self.assertIsNone(way(net, 3))
        self.assertIsNone(way(net, 4))

    def test_no_place(self):
        for size in (1, 5, 12):
            for wrong in wrong_places(size):
                with self.assertRaises(NoPlace, msg=(size, wrong)):
                    way(Net(size), wrong)

    def test_many_nets(self):
        for net in all_nets():
            rows = net.pipes()
            wet = wet_places(net.size(), rows)
            for place in range(net.size()):
                told = way(net, place)
                if place in wet:
                    self.assertIs(type(told), list)
                    self.assertTrue(is_way(rows, told, place), (rows, told, place))
                else:
                    self.assertIsNone(told)
            self.assertEqual(way(net, 0), [])


class NeededTest(unittest.TestCase):
    def test_all_of_a_single_row(self):
        net = net_of(4, [(2, 3, True), (0, 1, True), (1, 2, True)])
        self.assertEqual(needed(net, 3), [0, 1, 2])
        self.assertEqual(needed(net, 2), [1, 2])
        self.assertEqual(needed(net, 1), [1])

    def test_none_of_two_alike(self):
        self.assertEqual(needed(net_of(2, [(0, 1, True), (0, 1, True)]), 1), [])

    def test_a_shut_one_beside_does_not_help(self):
        self.assertEqual(needed(net_of(2, [(0, 1, False), (0, 1, True)]), 1), [1])

    def test_narrow_at_the_ends_and_wide_between(self):
        rows = [(0, 1, True), (1, 2, True), (1, 3, True), (2, 4, True), (3, 4, True), (4, 5, True)]
        self.assertEqual(needed(net_of(6, rows), 5), [0, 5])
        self.assertEqual(needed(net_of(6, rows), 4), [0])

    def test_none_for_the_spring(self):
        for net in (Net(1), Net(12), net_of(5, RING), full_net()):
            self.assertEqual(needed(net, 0), [])

    def test_none_where_water_does_not_come(self):
        net = net_of(5, RING)
        self.assertEqual(needed(net, 3), [])
        self.assertEqual(needed(net, 4), [])

    def test_no_place(self):
        for size in (1, 5, 12):
            for wrong in wrong_places(size):
                with self.assertRaises(NoPlace, msg=(size, wrong)):
                    needed(Net(size), wrong)

    def test_many_nets(self):
        for net in all_nets():
            rows = net.pipes()
            for place in range(net.size()):
                told = needed(net, place)
                self.assertIs(type(told), list)
                self.assertEqual(told, needed_pipes(net.size(), rows, place), (rows, place))

    def test_by_shutting_each_pipe_of_the_net_itself(self):
        for net in mixed_nets():
            for place in reached(net):
                told = needed(net, place)
                for pipe, row in enumerate(net.pipes()):
                    if row[2]:
                        net.shut(pipe)
                        self.assertEqual(place in reached(net), pipe not in told)
                        net.reopen(pipe)


class EnteringTest(unittest.TestCase):
    def test_open_pipes_from_outside_alone(self):
        rows = [(0, 1, True), (0, 2, False), (1, 2, True), (2, 1, True), (2, 3, True), (3, 1, True)]
        net = net_of(4, rows)
        self.assertEqual(entering(net, [1, 2]), [0, 5])
        self.assertEqual(entering(net, [2]), [2])
        self.assertEqual(entering(net, [1]), [0, 3, 5])

    def test_the_set_without_places_and_all_places(self):
        for net in (Net(1), Net(12), net_of(5, RING), full_net()):
            self.assertEqual(entering(net, []), [])
            self.assertEqual(entering(net, list(range(net.size()))), [])

    def test_sets_with_the_spring(self):
        net = net_of(5, RING)
        self.assertEqual(entering(net, [0]), [2])
        self.assertEqual(entering(net, [0, 1]), [2, 4])
        self.assertEqual(entering(net, [3, 0]), [2])

    def test_pipes_count_where_no_water_comes(self):
        self.assertEqual(entering(net_of(3, [(1, 2, True)]), [2]), [0])

    def test_pipes_alike_are_told_each(self):
        self.assertEqual(entering(net_of(2, [(0, 1, True), (0, 1, False), (0, 1, True)]), [1]), [0, 2])

    def test_in_any_order(self):
        net = full_net()
        first = entering(net, [2, 5, 7, 11])
        self.assertEqual(first, sorted(first))
        for order in ([11, 7, 5, 2], [5, 11, 2, 7], [7, 2, 11, 5]):
            self.assertEqual(entering(net, order), first)

    def test_the_list_handed_in_stays(self):
        places = [4, 1, 3]
        entering(net_of(5, RING), places)
        self.assertEqual(places, [4, 1, 3])

    def test_no_place(self):
        net = net_of(5, RING)
        for wrong in wrong_places(5):
            for places in ([wrong], [1, wrong], [wrong, 1]):
                with self.assertRaises(NoPlace, msg=places):
                    entering(net, places)

    def assert_by_the_words(self, net, places):
        expected = []
        for pipe, (start, goal, opened) in enumerate(net.pipes()):
            if opened and goal in places and start not in places:
                expected.append(pipe)
        told = entering(net, places)
        self.assertIs(type(told), list)
        self.assertEqual(told, expected, (net.pipes(), places))

    def test_all_sets_of_small_nets(self):
        for net in small_nets():
            for mask in range(8):
                self.assert_by_the_words(net, [place for place in (2, 0, 1) if mask >> place & 1])

    def test_some_sets_of_mixed_nets(self):
        for turn, net in enumerate(mixed_nets()):
            for step in range(10):
                mask = (turn * 131 + step * 977) % 4096
                self.assert_by_the_words(net, [place for place in range(net.size()) if mask >> place & 1])


class TogetherTest(unittest.TestCase):
    def test_arguments_bear_their_names(self):
        net = net_of(2, [(0, 1, True)])
        self.assertEqual(reached(net=net), [0, 1])
        self.assertEqual(way(net=net, place=1), [0])
        self.assertEqual(needed(net=net, place=1), [0])
        self.assertEqual(entering(net=net, places=[1]), [0])

    def test_the_net_stays_as_it_was(self):
        for net in all_nets():
            rows = net.pipes()
            size = net.size()
            reached(net)
            for place in range(size):
                way(net, place)
                needed(net, place)
                entering(net, [place])
            self.assertEqual((net.size(), net.pipes()), (size, rows))

    def test_a_refused_call_leaves_the_net(self):
        net = net_of(5, RING)
        for call in (way, needed):
            with self.assertRaises(NoPlace):
                call(net, 5)
        with self.assertRaises(NoPlace):
            entering(net, [5])
        self.assertEqual(net.pipes(), RING)

    def answers(self, net):
        return (reached(net), way(net, 2), needed(net, 2), entering(net, [2]))

    def test_the_net_as_it_is_then(self):
        net = Net(3)
        self.assertEqual(self.answers(net), ([0], None, [], []))
        net.lay(1, 2)
        self.assertEqual(self.answers(net), ([0], None, [], [0]))
        net.lay(0, 1)
        self.assertEqual(self.answers(net), ([0, 1, 2], [1, 0], [0, 1], [0]))
        net.shut(0)
        self.assertEqual(self.answers(net), ([0, 1], None, [], []))
        net.lay(0, 2)
        self.assertEqual(self.answers(net), ([0, 1, 2], [2], [2], [2]))
        net.reopen(0)
        self.assertEqual((reached(net), needed(net, 2), entering(net, [2])), ([0, 1, 2], [], [0, 2]))
        net.shut(2)
        self.assertEqual(self.answers(net), ([0, 1, 2], [1, 0], [0, 1], [0]))

    def test_answers_follow_each_step_of_a_long_row(self):
        net = full_net()
        for step in range(200):
            pipe = step * 37 % 60
            if net.pipes()[pipe][2]:
                net.shut(pipe)
            else:
                net.reopen(pipe)
            rows = net.pipes()
            place = step % 12
            self.assertEqual(reached(net), wet_places(12, rows))
            self.assertEqual(needed(net, place), needed_pipes(12, rows, place))
            self.assertEqual(way(net, place) is None, place not in reached(net))

    def test_lists_given_back_are_free(self):
        net = net_of(3, [(0, 1, True), (1, 2, True), (2, 1, True)])
        first = self.answers(net)
        for told in self.answers(net):
            told.append(99)
            told[0] = 77
        way(net, 0).append(5)
        needed(net, 0).append(5)
        entering(net, []).append(5)
        self.assertEqual(self.answers(net), first)
        self.assertEqual((way(net, 0), needed(net, 0), entering(net, [])), ([], [], []))
        self.assertEqual(net.pipes(), [(0, 1, True), (1, 2, True), (2, 1, True)])

    def test_answers_do_not_follow_the_net_nor_the_list_handed_in(self):
        net = net_of(3, [(0, 1, True), (1, 2, True)])
        places = [2]
        told = (reached(net), way(net, 2), needed(net, 2), entering(net, places))
        net.shut(0)
        net.shut(1)
        places.append(1)
        self.assertEqual(told, ([0, 1, 2], [0, 1], [0, 1], [1]))

    def test_the_slow_reckoning_agrees_with_shutting(self):
        rows = [(0, 1, True), (1, 2, True), (0, 2, False)]
        self.assertEqual(without(rows, 1), [(0, 1, True), (1, 2, False), (0, 2, False)])
        self.assertEqual(wet_places(3, without(rows, 1)), [0, 1])


if __name__ == "__main__":
    unittest.main()
