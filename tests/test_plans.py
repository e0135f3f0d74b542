import itertools
import random
import unittest

from firetree.fires import burnt, saved
from firetree.plans import ceiling, greatest, greedy
from firetree.trees import Tree
from helper import all_elders, deepest, depth, drawn_trees, open_things, worth_below

ROW = list(range(13))
STAR = [0] * 13
TWO_ON_EACH = [0, 0, 1, 1, 2, 2, 3, 3, 4, 4, 5, 5, 6]

# Each: elders, worths, the greatest, what the greedy plan saves, that plan, the ceiling; worked out by hand.
KNOWN = {
    "one thing": ([], [9], 0, 0, [], 0),
    "two things": ([0], [9, 4], 4, 4, [1], 4),
    "two things without worth": ([0], [0, 0], 0, 0, [1], 0),
    "the document's tree": ([0, 0, 1], [0, 5, 3, 10], 15, 15, [1], 25),
    "greedy takes the lesser": ([0, 0, 1], [0, 0, 9, 10], 19, 10, [1], 20),
    "greedy takes the lesser number": ([0, 0, 1], [0, 0, 10, 10], 20, 10, [1], 20),
    "the other way round": ([0, 0, 2], [0, 10, 0, 10], 20, 20, [1, 3], 20),
    "a few in a row": ([0, 1, 2], [8, 1, 2, 4], 7, 7, [1], 17),
    "two rows": ([0, 0, 1, 2, 3, 4], [0, 1, 1, 1, 1, 1, 1], 5, 5, [1, 4], 6),
    "three rows": ([0, 0, 0, 1, 2, 3, 4, 5, 6], [0, 1, 2, 3, 4, 5, 6, 7, 8, 9], 38, 38, [3, 5, 7], 42),
    "worth lies deep": ([0, 0, 1, 2], [1000, 0, 0, 1000, 999], 1999, 1999, [1, 4], 2000),
    "without worth": ([0, 0, 1, 2, 3, 4], [0] * 7, 0, 0, [1, 4], 0),
    "only the first has worth": ([0, 0, 1, 2], [1000, 0, 0, 0, 0], 0, 0, [1, 4], 0),
    "fourteen in a row": (ROW, [1000] * 14, 13000, 13000, [1], 91000),
    "fourteen in a row without worth": (ROW, [0] * 14, 0, 0, [1], 0),
    "fourteen on the first": (STAR, list(range(14)), 13, 13, [13], 13),
    "fourteen on the first, all alike": (STAR, [5] * 14, 5, 5, [1], 5),
    "fourteen on the first, two alike": (STAR, [9, 1, 2, 3, 4, 5, 8, 6, 7, 1, 8, 3, 4, 5], 8, 8, [6], 8),
    "two on each": (TWO_ON_EACH, [1] * 14, 11, 11, [1, 5, 13], 11),
}


def reference_greedy(elders, worths):
    plan = []
    while open_things(elders, plan):
        sums = {thing: worth_below(elders, worths, thing) for thing in open_things(elders, plan)}
        plan.append(min(thing for thing in sums if sums[thing] == max(sums.values())))
    return plan


def reference_ceiling(elders, worths):
    most = {}
    for thing in range(1, len(worths)):
        at = depth(elders, thing)
        most[at] = max(most.get(at, 0), worth_below(elders, worths, thing))
    return sum(most.values())


def whole_plans(elders, plan=()):
    """All plans of point 6's kind: as long as there are any, a thing of the minute's depth below none shut off."""
    following = open_things(elders, plan)
    if not following:
        yield plan
    for thing in following:
        yield from whole_plans(elders, plan + (thing,))


def plans_whatever(elders):
    """All plans, one minute longer than the fire can last; None and things far from the fire are among them."""
    steps = [None] + list(range(1, len(elders) + 1))
    for plan in itertools.product(steps, repeat=deepest(elders) + 1):
        things = [thing for thing in plan if thing is not None]
        if len(set(things)) == len(things):
            yield list(plan)


def unburnt_by_any_plan(elders):
    tree = Tree(elders, [0] * (len(elders) + 1))
    found = set()
    for plan in plans_whatever(elders):
        try:
            rows = burnt(tree, plan)
        except ValueError:
            continue
        found.add(frozenset(range(len(elders) + 1)).difference(*rows))
    return found


class Planning(unittest.TestCase):
    def assert_plan_of_point_six(self, elders, plan):
        self.assertIs(type(plan), list)
        for minute, thing in enumerate(plan):
            self.assertIs(type(thing), int)
            self.assertIn(thing, open_things(elders, plan[:minute]))
        self.assertEqual(open_things(elders, plan), [])

    def assert_pair(self, elders, worths, pair):
        self.assertIs(type(pair), tuple)
        self.assertEqual(len(pair), 2)
        self.assertIs(type(pair[0]), int)
        self.assert_plan_of_point_six(elders, pair[1])
        self.assertEqual(saved(Tree(elders, worths), pair[1]), pair[0])


class Greatest(Planning):
    def test_known_trees(self):
        for name, known in KNOWN.items():
            with self.subTest(name):
                pair = greatest(Tree(known[0], known[1]))
                self.assertEqual(pair[0], known[2])
                self.assert_pair(known[0], known[1], pair)

    def test_one_thing(self):
        for worth in [0, 1, 1000]:
            self.assertEqual(greatest(Tree([], [worth])), (0, []))

    def test_the_one_plan_there_is(self):
        self.assertEqual(greatest(Tree([0, 0, 1], [0, 5, 3, 10])), (15, [1]))
        self.assertEqual(greatest(Tree([0, 0, 1], [0, 0, 9, 10])), (19, [2, 3]))
        self.assertEqual(greatest(Tree(ROW, [0] * 14)), (0, [1]))

    def test_no_plan_whatever_saves_more_on_trees_of_up_to_five_things(self):
        for things in range(1, 6):
            for elders in all_elders(things):
                unburnt = unburnt_by_any_plan(elders)
                for worths in itertools.product([0, 1, 3], repeat=things - 1):
                    worths = [2] + list(worths)
                    with self.subTest(elders=elders, worths=worths):
                        pair = greatest(Tree(elders, worths))
                        self.assert_pair(elders, worths, pair)
                        self.assertEqual(pair[0], max(sum(worths[thing] for thing in each) for each in unburnt))

    def test_no_plan_whatever_saves_more_on_trees_of_six_things(self):
        draw = random.Random(6)
        for elders in all_elders(6):
            unburnt = unburnt_by_any_plan(elders)
            for again in range(12):
                worths = [draw.randint(0, 4) for thing in range(6)]
                with self.subTest(elders=elders, worths=worths):
                    pair = greatest(Tree(elders, worths))
                    self.assert_pair(elders, worths, pair)
                    self.assertEqual(pair[0], max(sum(worths[thing] for thing in each) for each in unburnt))

    def test_no_plan_of_its_kind_saves_more_on_drawn_trees(self):
        for elders, worths in drawn_trees(7, 300):
            with self.subTest(elders=elders, worths=worths):
                pair = greatest(Tree(elders, worths))
                self.assert_pair(elders, worths, pair)
                sums = [worth_below(elders, worths, thing) for thing in range(len(worths))]
                self.assertEqual(pair[0], max(sum(sums[thing] for thing in plan) for plan in whole_plans(elders)))

    def test_without_worth_it_still_shuts_off_as_long_as_there_are_things(self):
        for things in range(1, 7):
            for elders in all_elders(things):
                with self.subTest(elders=elders):
                    pair = greatest(Tree(elders, [0] * things))
                    self.assertEqual(pair[0], 0)
                    self.assert_plan_of_point_six(elders, pair[1])


class Greedy(Planning):
    def test_known_trees(self):
        for name, known in KNOWN.items():
            with self.subTest(name):
                pair = greedy(Tree(known[0], known[1]))
                self.assertEqual(pair, (known[3], known[4]))
                self.assert_pair(known[0], known[1], pair)

    def test_small_trees(self):
        for things in range(1, 6):
            for elders in all_elders(things):
                for worths in itertools.product([0, 1, 2], repeat=things):
                    with self.subTest(elders=elders, worths=worths):
                        pair = greedy(Tree(elders, list(worths)))
                        self.assertEqual(pair[1], reference_greedy(elders, worths))
                        self.assert_pair(elders, list(worths), pair)

    def test_drawn_trees(self):
        for elders, worths in drawn_trees(8, 400):
            with self.subTest(elders=elders, worths=worths):
                pair = greedy(Tree(elders, worths))
                self.assertEqual(pair[1], reference_greedy(elders, worths))
                self.assert_pair(elders, worths, pair)

    def test_it_saves_at_least_half_of_the_greatest(self):
        for elders, worths in drawn_trees(9, 400):
            with self.subTest(elders=elders, worths=worths):
                tree = Tree(elders, worths)
                self.assertLessEqual(greedy(tree)[0], greatest(tree)[0])
                self.assertGreaterEqual(2 * greedy(tree)[0], greatest(tree)[0])


class Ceiling(unittest.TestCase):
    def test_known_trees(self):
        for name, known in KNOWN.items():
            with self.subTest(name):
                total = ceiling(Tree(known[0], known[1]))
                self.assertIs(type(total), int)
                self.assertEqual(total, known[5])

    def test_small_trees(self):
        for things in range(1, 6):
            for elders in all_elders(things):
                for worths in itertools.product([0, 1, 2], repeat=things):
                    with self.subTest(elders=elders, worths=worths):
                        self.assertEqual(ceiling(Tree(elders, list(worths))), reference_ceiling(elders, worths))

    def test_drawn_trees(self):
        for elders, worths in drawn_trees(10, 400):
            with self.subTest(elders=elders, worths=worths):
                tree = Tree(elders, worths)
                self.assertEqual(ceiling(tree), reference_ceiling(elders, worths))
                self.assertGreaterEqual(ceiling(tree), greatest(tree)[0])


class WhoseTheyAre(unittest.TestCase):
    def test_the_names_of_the_arguments(self):
        tree = Tree([0], [3, 4])
        self.assertEqual([greatest(tree=tree), greedy(tree=tree), ceiling(tree=tree)], [(4, [1]), (4, [1]), 4])

    def test_the_tree_stays_as_it_was(self):
        for name, known in KNOWN.items():
            for call in [greatest, greedy, ceiling]:
                with self.subTest(name, call=call.__name__):
                    tree = Tree(known[0], known[1])
                    call(tree)
                    self.assertEqual((tree.elders(), tree.worths()), (known[0], known[1]))

    def test_a_told_plan_may_be_changed(self):
        for name, known in KNOWN.items():
            for call in [greatest, greedy]:
                with self.subTest(name, call=call.__name__):
                    tree = Tree(known[0], known[1])
                    first = call(tree)
                    kept = (first[0], list(first[1]))
                    first[1].append(99)
                    first[1][0] = 77
                    self.assertEqual(call(tree), kept)
                    first[1].clear()
                    self.assertEqual(call(tree), kept)

    def test_no_two_plans_are_one(self):
        for elders in [[], [0], [0, 0, 1]]:
            tree = Tree(elders, [1] * (len(elders) + 1))
            plans = [call(tree)[1] for call in [greatest, greedy, greatest, greedy]]
            self.assertEqual(len({id(plan) for plan in plans}), 4)

    def test_two_trees_by_turns(self):
        one, other = Tree([0, 0, 1], [0, 0, 9, 10]), Tree([0, 1, 2], [8, 1, 2, 4])
        for again in range(3):
            self.assertEqual([greatest(one), greatest(other)], [(19, [2, 3]), (7, [1])])
            self.assertEqual([greedy(one), greedy(other)], [(10, [1]), (7, [1])])
            self.assertEqual([ceiling(one), ceiling(other)], [20, 17])


if __name__ == "__main__":
    unittest.main()
