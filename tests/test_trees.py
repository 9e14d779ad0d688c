import random
import unittest

from springways.errors import NoPipe
from springways.net import Net
from springways.trees import apart, is_tree, most_apart
from springways.water import reached
from springways.wide import widest
from tests.samples import (all_nets, enter_count, few_pipes_nets, full_net, is_tree_by_words, least_entering,
                           mixed_nets, most_disjoint, net_of, pipe_sets, small_nets, tree_nets, tree_rows)

FAR = 10 ** 30
# Taken without care, 0 and 1 are a first tree that leaves no second one.
CARE = [(0, 1, True), (0, 2, True), (1, 2, True), (2, 1, True)]


class TreesCase(unittest.TestCase):
    def assert_trees(self, net, many, trees):
        self.assertIs(type(trees), list)
        self.assertEqual(len(trees), many)
        for tree in trees:
            self.assertIs(type(tree), list)
            self.assertEqual(tree, sorted(set(tree)))
            self.assertTrue(is_tree_by_words(net.size(), net.pipes(), tree), (net.pipes(), tree))
        together = [pipe for tree in trees for pipe in tree]
        self.assertEqual(len(set(together)), len(together), (net.pipes(), trees))

    def assert_set(self, net, places):
        self.assertIs(type(places), list)
        self.assertEqual(places, sorted(set(places)))
        self.assertLessEqual(set(places), set(range(1, net.size())))
        self.assertGreaterEqual(len(places), 1)

    def assert_told(self, net, many, greatest):
        told = apart(net, many)
        self.assertIs(type(told), tuple)
        self.assertEqual(len(told), 2)
        if many <= greatest:
            self.assertEqual(told[0], "trees", (net.pipes(), many))
            self.assert_trees(net, many, told[1])
        else:
            self.assertEqual(told[0], "narrow", (net.pipes(), many))
            self.assert_set(net, told[1])
            self.assertLess(enter_count(net.pipes(), told[1]), many)

    def assert_most(self, net, greatest):
        told = most_apart(net)
        self.assertIs(type(told), tuple)
        self.assertEqual(len(told), 3)
        self.assertIs(type(told[0]), int)
        self.assertEqual(told[0], greatest, net.pipes())
        self.assert_trees(net, greatest, told[1])
        self.assert_set(net, told[2])
        self.assertEqual(enter_count(net.pipes(), told[2]), greatest)

    def assert_all(self, net, greatest):
        for many in range(6):
            self.assert_told(net, many, greatest)
        self.assert_most(net, greatest)


class IsTreeTest(unittest.TestCase):
    def assert_answer(self, net, pipes, expected):
        handed = list(pipes)
        self.assertIs(is_tree(net, handed), expected, (net.pipes(), pipes))
        self.assertEqual(handed, list(pipes))

    def test_one_place_and_no_pipes(self):
        self.assert_answer(Net(1), [], True)

    def test_no_pipes_are_no_tree_of_more_places(self):
        for size in range(2, 13):
            self.assert_answer(Net(size), [], False)
        self.assert_answer(full_net(), [], False)

    def test_a_tree_in_any_order(self):
        net = net_of(4, [(1, 3, True), (0, 1, True), (1, 2, True)])
        for pipes in ([0, 1, 2], [0, 2, 1], [1, 0, 2], [1, 2, 0], [2, 0, 1], [2, 1, 0]):
            self.assert_answer(net, pipes, True)

    def test_one_pipe_too_few(self):
        net = net_of(4, [(0, 1, True), (1, 2, True), (1, 3, True)])
        for pipes in ([0, 1], [0, 2], [1, 2], [0]):
            self.assert_answer(net, pipes, False)

    def test_one_pipe_too_many(self):
        net = net_of(3, [(0, 1, True), (1, 2, True), (0, 2, True), (0, 1, True)])
        self.assert_answer(net, [0, 1, 2], False)
        self.assert_answer(net, [0, 1, 3], False)
        self.assert_answer(net, [0, 1, 2, 3], False)
        self.assert_answer(net, [0, 2], True)
        self.assert_answer(net, [3, 1], True)

    def test_a_pipe_into_the_spring(self):
        net = net_of(3, [(0, 1, True), (1, 2, True), (1, 0, True), (2, 0, True)])
        self.assert_answer(net, [0, 1, 2], False)
        self.assert_answer(net, [0, 1, 3], False)
        self.assert_answer(net, [0, 2], False)
        self.assert_answer(net, [0, 1], True)

    def test_two_that_enter_one_place(self):
        net = net_of(4, [(0, 1, True), (0, 2, True), (1, 2, True), (2, 3, True)])
        self.assert_answer(net, [0, 1, 2], False)
        self.assert_answer(net, [0, 1, 2, 3], False)
        self.assert_answer(net, [1, 2, 3], False)
        self.assert_answer(net, [0, 2, 3], True)

    def test_a_ring_apart_from_the_spring(self):
        net = net_of(4, [(0, 1, True), (2, 3, True), (3, 2, True), (1, 2, True)])
        self.assert_answer(net, [0, 1, 2], False)
        self.assert_answer(net, [0, 1, 3], True)
        self.assert_answer(net_of(3, [(1, 2, True), (2, 1, True)]), [0, 1], False)

    def test_a_shut_pipe(self):
        net = net_of(3, [(0, 1, True), (1, 2, False), (0, 2, True)])
        self.assert_answer(net, [0, 1], False)
        self.assert_answer(net, [1, 0], False)
        self.assert_answer(net, [0, 2], True)
        self.assert_answer(net, [0, 1, 2], False)
        net.reopen(1)
        self.assert_answer(net, [0, 1], True)
        net.shut(0)
        self.assert_answer(net, [0, 1], False)

    def test_twelve_places(self):
        net = net_of(12, [(at, at + 1, True) for at in reversed(range(11))] + [(11, 0, True), (11, 1, True)])
        self.assert_answer(net, range(11), True)
        self.assert_answer(net, list(reversed(range(11))), True)
        self.assert_answer(net, range(1, 11), False)
        self.assert_answer(net, range(1, 12), False)
        self.assert_answer(net, list(range(10)) + [12], False)
        self.assert_answer(net, range(12), False)

    def test_no_pipe_at_any_place_of_the_list(self):
        rows = [(0, 1, True), (1, 2, True), (2, 0, False)]
        net = net_of(3, rows)
        for wrong in (3, 4, 60, -1, -2, -3, -4, FAR, -FAR):
            for pipes in ([wrong], [wrong, 0, 1], [0, wrong, 1], [0, 1, wrong], [2, wrong], [2, 0, 1, wrong],
                          [wrong, 2]):
                handed = list(pipes)
                with self.assertRaises(NoPipe, msg=pipes) as caught:
                    is_tree(net, handed)
                self.assertIs(type(caught.exception), NoPipe)
                self.assertEqual(handed, pipes)
                self.assertEqual((net.size(), net.pipes()), (3, rows))

    def test_nought_is_no_pipe_where_none_is_laid(self):
        for size in (1, 2, 12):
            for wrong in (0, -1, 1):
                with self.assertRaises(NoPipe):
                    is_tree(Net(size), [wrong])

    def test_all_sets_of_pipes(self):
        source = random.Random(3)
        for net in list(small_nets())[::3] + list(few_pipes_nets()):
            for pipes in pipe_sets(net.pipes()):
                expected = is_tree_by_words(net.size(), net.pipes(), pipes)
                mixed = list(pipes)
                source.shuffle(mixed)
                self.assert_answer(net, mixed, expected)

    def test_sets_of_larger_nets(self):
        source = random.Random(4)
        for size in range(2, 13):
            for turn in range(20):
                rows = tree_rows(source, size) + tree_rows(source, size)
                net = net_of(size, rows)
                self.assert_answer(net, range(size - 1), True)
                self.assert_answer(net, range(size - 1, 2 * size - 2), True)
                for step in range(10):
                    pipes = source.sample(range(len(rows)), size - 1)
                    self.assert_answer(net, pipes, is_tree_by_words(size, rows, pipes))


class OrdinaryTest(TreesCase):
    def test_the_only_answers(self):
        net = net_of(3, [(1, 2, True), (0, 1, True)])
        self.assertEqual(apart(net, 1), ("trees", [[0, 1]]))
        self.assertEqual(most_apart(net)[:2], (1, [[0, 1]]))
        self.assertEqual(apart(net_of(2, [(0, 1, True)]), 2), ("narrow", [1]))
        self.assertEqual(most_apart(net_of(2, [(0, 1, True)])), (1, [[0]], [1]))

    def test_for_nought_a_list_without_trees(self):
        for net in (Net(1), Net(2), Net(12), net_of(3, CARE), full_net()):
            self.assertEqual(apart(net, 0), ("trees", []))

    def test_one_place_has_the_tree_without_pipes_so_many_times(self):
        for many in range(9):
            self.assertEqual(apart(Net(1), many), ("trees", [[]] * many))

    def test_nets_without_pipes(self):
        for size in range(2, 13):
            self.assert_all(Net(size), 0)

    def test_a_first_tree_taken_without_care(self):
        for turn in range(4):
            rows = CARE[turn:] + CARE[:turn]
            for order in (rows, rows[::-1]):
                net = net_of(3, order)
                self.assert_all(net, 2)
                told = [sorted(order[pipe][:2] for pipe in tree) for tree in apart(net, 2)[1]]
                self.assertEqual(sorted(told), [[(0, 1), (1, 2)], [(0, 2), (2, 1)]])

    def test_care_for_three_trees(self):
        # Each place is entered once from the spring and by one pipe from each other one: a star leaves no next tree.
        rows = [(0, place, True) for place in range(1, 4)]
        rows += [(start, goal, True) for start in range(1, 4) for goal in range(1, 4) if start != goal]
        self.assert_all(net_of(4, rows), 3)
        self.assert_all(net_of(4, rows[::-1]), 3)

    def test_shut_pipes_do_not_count(self):
        rows = CARE + [(0, 1, False), (0, 2, False), (0, 1, True)]
        self.assert_all(net_of(3, rows), 2)

    def test_a_dry_place(self):
        net = net_of(4, [(0, 1, True), (0, 1, True), (2, 3, True), (3, 2, True), (3, 1, True), (2, 0, True)])
        self.assert_all(net, 0)
        self.assertEqual(most_apart(net), (0, [], [2, 3]))
        self.assertEqual(apart(net, 1), ("narrow", [2, 3]))

    def test_the_narrowest_set_is_told_whichever_place_it_holds(self):
        for dry in range(1, 12):
            rows = [(0, place, True) for place in range(1, 12)] * 3 + [(0, place, True) for place in range(1, 12)
                                                                      if place != dry]
            net = net_of(12, rows)
            self.assert_all(net, 3)
            self.assertEqual(most_apart(net)[2], [dry])

    def test_two_places_with_up_to_sixty_pipes(self):
        for many in (0, 1, 5, 6, 30, 60):
            net = net_of(2, [(0, 1, True)] * many + [(1, 0, True)] * (60 - many))
            self.assert_all(net, many)
            self.assert_told(net, many + 1, many)

    def test_numbers_beyond_five_are_not_refused(self):
        net = net_of(3, CARE * 15)
        self.assert_all(net, 30)
        for many in (6, 7, 10, 30, 31, 40):
            self.assert_told(net, many, 30)
        for many in (6, 7, 12):
            self.assert_told(full_net(), many, 5)

    def test_below_nought_is_not_refused(self):
        # Neither trees nor a narrow set can be: the answer is not promised, only that there is one.
        for net in (Net(1), Net(2), net_of(3, CARE)):
            self.assertIs(type(apart(net, -1)), tuple)

    def test_sixty_pipes_in_twelve_places(self):
        self.assert_all(full_net(), 5)


class SearchTest(TreesCase):
    def test_against_all_sets_of_places(self):
        for net in all_nets():
            if net.size() > 1:
                self.assert_all(net, min(least_entering(net.size(), net.pipes()).values()))

    def test_against_all_sets_of_pipes(self):
        for net in list(small_nets())[::2] + list(few_pipes_nets()):
            size = net.size()
            trees = [pipes for pipes in pipe_sets(net.pipes())
                     if len(pipes) == size - 1 and is_tree_by_words(size, net.pipes(), pipes)]
            self.assert_all(net, most_disjoint(trees))

    def test_nets_made_of_trees(self):
        for many, net in tree_nets():
            greatest = min(least_entering(net.size(), net.pipes()).values())
            self.assertGreaterEqual(greatest, many)
            self.assert_all(net, greatest)
            for tree in apart(net, many)[1]:
                self.assertIs(is_tree(net, tree), True)

    def test_one_more_and_the_widest(self):
        for net in mixed_nets():
            if net.size() > 1:
                greatest = most_apart(net)[0]
                self.assertEqual(apart(net, greatest)[0], "trees")
                self.assertEqual(apart(net, greatest + 1)[0], "narrow")
                self.assertEqual(greatest, min(widest(net, place)[0] for place in range(1, net.size())))
                self.assertEqual(greatest > 0, len(reached(net)) == net.size())


class TogetherTest(TreesCase):
    def answers(self, net):
        return (apart(net, 2), apart(net, 3), apart(net, 0), most_apart(net))

    def test_arguments_bear_their_names(self):
        net = net_of(2, [(0, 1, True)])
        self.assertIs(is_tree(net=net, pipes=[0]), True)
        self.assertEqual(apart(net=net, many=1), ("trees", [[0]]))
        self.assertEqual(most_apart(net=net), (1, [[0]], [1]))

    def test_the_net_stays_as_it_was(self):
        for net in all_nets():
            before = (net.size(), net.pipes())
            is_tree(net, list(range(len(net.pipes()))))
            for many in (0, 1, 2, 5):
                apart(net, many)
            if net.size() > 1:
                most_apart(net)
            self.assertEqual((net.size(), net.pipes()), before)

    def test_lists_given_back_are_free(self):
        net = net_of(3, CARE)
        first = self.answers(net)
        again = self.answers(net)
        for tree in again[0][1] + again[3][1]:
            tree.append(99)
            tree[0] = 77
        for told in (again[0][1], again[1][1], again[2][1], again[3][1], again[3][2]):
            told.append(55)
            told[0] = 44
        self.assertEqual(self.answers(net), first)
        self.assertEqual(net.pipes(), CARE)

    def test_the_trees_of_one_place_are_free_of_each_other(self):
        told = apart(Net(1), 3)[1]
        told[0].append(5)
        self.assertEqual(told, [[5], [], []])
        self.assertEqual(apart(Net(1), 3), ("trees", [[], [], []]))

    def test_answers_do_not_follow_the_net_nor_the_list_handed_in(self):
        net = net_of(2, [(0, 1, True)])
        pipes = [0]
        told = (apart(net, 1), apart(net, 2), most_apart(net), is_tree(net, pipes))
        pipes.append(1)
        net.lay(0, 1)
        net.shut(0)
        self.assertEqual(told, (("trees", [[0]]), ("narrow", [1]), (1, [[0]], [1]), True))

    def test_the_net_as_it_is_then(self):
        net = Net(3)
        self.assert_all(net, 0)
        for start, goal, greatest in ((0, 1, 0), (1, 2, 1), (0, 2, 1), (2, 1, 2)):
            net.lay(start, goal)
            self.assert_all(net, greatest)
        self.assertIs(is_tree(net, [2, 3]), True)
        net.shut(3)
        self.assert_all(net, 1)
        self.assertIs(is_tree(net, [2, 3]), False)
        net.shut(0)
        self.assert_all(net, 0)
        net.reopen(3)
        self.assert_all(net, 1)
        self.assertEqual(apart(net, 1), ("trees", [[2, 3]]))
        net.reopen(0)
        self.assert_all(net, 2)

    def test_answers_follow_each_step_of_a_long_row(self):
        net = full_net()
        for step in range(60):
            pipe = step * 37 % 60
            if net.pipes()[pipe][2] and step % 3:
                net.shut(pipe)
            else:
                net.reopen(pipe)
            self.assert_all(net, min(least_entering(12, net.pipes()).values()))


if __name__ == "__main__":
    unittest.main()
