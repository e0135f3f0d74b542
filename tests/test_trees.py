import unittest

from firetree.errors import BadTree, NoThing
from firetree.trees import Tree
from helper import Refusing, all_elders, hangs

# Each: elders, worths, depths, below and worths below of all things, worked out by hand.
KNOWN = {
    "one thing": ([], [7], [0], [[0]], [7]),
    "the document's tree": (
        [0, 0, 1],
        [0, 5, 3, 10],
        [0, 1, 1, 2],
        [[0, 1, 2, 3], [1, 3], [2], [3]],
        [18, 15, 3, 10],
    ),
    "a few in a row": ([0, 1, 2], [1, 2, 4, 8], [0, 1, 2, 3], [[0, 1, 2, 3], [1, 2, 3], [2, 3], [3]], [15, 14, 12, 8]),
    "a few on the first": ([0, 0, 0], [1, 2, 4, 8], [0, 1, 1, 1], [[0, 1, 2, 3], [1], [2], [3]], [15, 2, 4, 8]),
    "numbers that leave gaps": (
        [0, 0, 1, 2, 1, 3],
        [1, 2, 4, 8, 16, 32, 64],
        [0, 1, 1, 2, 2, 2, 3],
        [[0, 1, 2, 3, 4, 5, 6], [1, 3, 5, 6], [2, 4], [3, 6], [4], [5], [6]],
        [127, 106, 20, 72, 16, 32, 64],
    ),
    "fourteen in a row": (
        list(range(13)),
        [1000] * 14,
        list(range(14)),
        [list(range(thing, 14)) for thing in range(14)],
        [1000 * (14 - thing) for thing in range(14)],
    ),
    "fourteen, all on the first": (
        [0] * 13,
        list(range(14)),
        [0] + [1] * 13,
        [list(range(14))] + [[thing] for thing in range(1, 14)],
        [91] + list(range(1, 14)),
    ),
    "fourteen, two on each": (
        [0, 0, 1, 1, 2, 2, 3, 3, 4, 4, 5, 5, 6],
        [0, 1, 2, 3, 4, 5, 6, 7, 8, 9, 10, 11, 12, 1000],
        [0, 1, 1, 2, 2, 2, 2, 3, 3, 3, 3, 3, 3, 3],
        [
            list(range(14)),
            [1, 3, 4, 7, 8, 9, 10],
            [2, 5, 6, 11, 12, 13],
            [3, 7, 8],
            [4, 9, 10],
            [5, 11, 12],
            [6, 13],
            [7],
            [8],
            [9],
            [10],
            [11],
            [12],
            [13],
        ],
        [1078, 42, 1036, 18, 23, 28, 1006, 7, 8, 9, 10, 11, 12, 1000],
    ),
}

# Each: elders and worths that make no tree.
NO_TREES = {
    "no thing at all": ([], []),
    "no thing, but an elder": ([0], []),
    "fifteen things": ([0] * 14, [1] * 15),
    "fifteen things in a row": (list(range(14)), [1] * 15),
    "twenty things": ([0] * 19, [1] * 20),
    "fifteen worths, thirteen elders": ([0] * 13, [1] * 15),
    "an elder too many for one thing": ([0], [1]),
    "an elder too many": ([0, 0, 0], [1, 1, 1]),
    "an elder too many for fourteen": ([0] * 14, [1] * 14),
    "an elder too few": ([0], [1, 1, 1]),
    "no elders for two things": ([], [1, 1]),
    "an elder too few for fourteen": ([0] * 12, [1] * 14),
    "a thing that is its own elder": ([1], [1, 1]),
    "an elder with a greater number": ([2, 0], [1, 1, 1]),
    "an elder that is no thing": ([5], [1, 1]),
    "an elder below nought": ([-1], [1, 1]),
    "a last elder below nought": ([0, 1, -1], [1, 1, 1, 1]),
    "a worth below nought": ([], [-1]),
    "a last worth below nought": ([0, 0], [1, 1, -1]),
    "a worth above 1000": ([], [1001]),
    "a last worth above 1000": ([0, 0], [1, 1, 1001]),
    "a huge worth": ([0], [1, 10**5000]),
    "a huge elder": ([10**5000], [1, 1]),
}

ASKED = ["depth", "below", "worth_below"]


def told(tree):
    rows = [[getattr(tree, name)(thing) for thing in range(tree.things())] for name in ASKED]
    return [tree.elders(), tree.worths(), tree.things()] + rows


def expected(elders, worths, depths, below, worths_below):
    return [elders, worths, len(worths), depths, below, worths_below]


class WhatIsTold(unittest.TestCase):
    def test_known_trees(self):
        for name, known in KNOWN.items():
            with self.subTest(name):
                tree = Tree(list(known[0]), list(known[1]))
                self.assertEqual(told(tree), expected(*known))

    def test_the_names_of_the_arguments(self):
        tree = Tree(elders=[0], worths=[3, 4])
        self.assertEqual([tree.depth(thing=1), tree.below(thing=1), tree.worth_below(thing=1)], [1, [1], 4])

    def test_kinds(self):
        tree = Tree([0, 1], [3, 4, 5])
        for value in [tree.things(), tree.depth(2), tree.worth_below(2)]:
            self.assertIs(type(value), int)
        for value in [tree.elders(), tree.worths(), tree.below(1)]:
            self.assertIs(type(value), list)
            self.assertEqual([type(number) for number in value], [int] * len(value))

    def test_every_tree_of_up_to_six_things(self):
        for things in range(1, 7):
            # Powers of two: each set of things has a sum of its own.
            worths = [2**thing for thing in range(things)]
            for elders in all_elders(things):
                with self.subTest(elders=elders):
                    tree = Tree(elders, worths)
                    below = [
                        [other for other in range(things) if hangs(elders, other, thing)] for thing in range(things)
                    ]
                    depths = [len([1 for row in below if thing in row]) - 1 for thing in range(things)]
                    sums = [sum(worths[other] for other in row) for row in below]
                    self.assertEqual(told(tree), expected(elders, worths, depths, below, sums))

    def test_asking_again_tells_the_same(self):
        for name, known in KNOWN.items():
            with self.subTest(name):
                tree = Tree(known[0], known[1])
                first = told(tree)
                for thing in reversed(range(tree.things())):
                    tree.below(thing)
                self.assertEqual(told(tree), first)

    def test_two_trees_do_not_mix(self):
        one = Tree([0, 1], [1, 2, 4])
        other = Tree([0, 0, 0], [8, 16, 32, 64])
        self.assertEqual(told(one), [[0, 1], [1, 2, 4], 3, [0, 1, 2], [[0, 1, 2], [1, 2], [2]], [7, 6, 4]])
        self.assertEqual(told(other)[:3], [[0, 0, 0], [8, 16, 32, 64], 4])


class WhatIsHandedIn(unittest.TestCase):
    def test_stays_as_it_was(self):
        for name, known in KNOWN.items():
            with self.subTest(name):
                elders, worths = list(known[0]), list(known[1])
                told(Tree(elders, worths))
                self.assertEqual((elders, worths), (known[0], known[1]))

    def test_may_be_changed_later(self):
        for name, known in KNOWN.items():
            with self.subTest(name):
                elders, worths = list(known[0]), list(known[1])
                tree = Tree(elders, worths)
                elders[:] = [0] * len(elders) + [0]
                worths[:] = [number + 1 for number in worths]
                worths.append(9)
                self.assertEqual(told(tree), expected(*known))
                elders.clear()
                worths.clear()
                self.assertEqual(told(tree), expected(*known))

    def test_stays_as_it_was_at_a_refusal(self):
        for name, (elders, worths) in NO_TREES.items():
            with self.subTest(name):
                handed = (list(elders), list(worths))
                with self.assertRaises(BadTree):
                    Tree(*handed)
                # Not assertEqual: it could not write out the huge numbers.
                self.assertTrue(handed == (elders, worths))


class WhatIsTheAskersOwn(unittest.TestCase):
    def test_told_lists_may_be_changed(self):
        for name, known in KNOWN.items():
            with self.subTest(name):
                tree = Tree(list(known[0]), list(known[1]))
                lists = [tree.elders(), tree.worths()] + [tree.below(thing) for thing in range(tree.things())]
                for each in lists:
                    each[:] = [99] + each[1:] + [77]
                self.assertEqual(told(tree), expected(*known))
                for each in lists:
                    each.clear()
                self.assertEqual(told(tree), expected(*known))

    def test_no_two_lists_are_one(self):
        elders, worths = [0, 0], [0, 0, 0]
        tree = Tree(elders, worths)
        lists = [elders, worths]
        for again in range(2):
            lists += [tree.elders(), tree.worths()] + [tree.below(thing) for thing in range(3)]
        self.assertEqual(len({id(each) for each in lists}), len(lists))

    def test_trees_of_the_same_lists_tell_lists_of_their_own(self):
        elders, worths = [0], [1, 2]
        one, other = Tree(elders, worths), Tree(elders, worths)
        one.elders().append(5)
        one.worths().append(5)
        one.below(0).append(5)
        self.assertEqual(told(other), [[0], [1, 2], 2, [0, 1], [[0, 1], [1]], [3, 2]])


class BadTrees(Refusing):
    def test_what_is_no_tree(self):
        for name, (elders, worths) in NO_TREES.items():
            with self.subTest(name):
                self.assert_refused(BadTree, Tree, list(elders), list(worths))

    def test_how_many_things(self):
        for things in range(0, 21):
            with self.subTest(things=things):
                elders, worths = [0] * max(things - 1, 0), [1] * things
                if 1 <= things <= 14:
                    self.assertEqual(Tree(elders, worths).things(), things)
                else:
                    self.assert_refused(BadTree, Tree, elders, worths)

    def test_how_many_elders(self):
        for things in range(1, 15):
            for count in range(0, 17):
                with self.subTest(things=things, elders=count):
                    if count == things - 1:
                        self.assertEqual(Tree([0] * count, [1] * things).elders(), [0] * count)
                    else:
                        self.assert_refused(BadTree, Tree, [0] * count, [1] * things)

    def test_each_elder_of_each_thing(self):
        for thing in range(1, 14):
            for elder in range(-15, 17):
                with self.subTest(thing=thing, elder=elder):
                    elders = [0] * 13
                    elders[thing - 1] = elder
                    if 0 <= elder < thing:
                        self.assertEqual(Tree(elders, [1] * 14).elders(), elders)
                    else:
                        self.assert_refused(BadTree, Tree, elders, [1] * 14)

    def test_the_edges_of_each_worth(self):
        for thing in range(14):
            for worth in [-1000, -2, -1, 0, 1, 999, 1000, 1001, 1002, 10**9]:
                with self.subTest(thing=thing, worth=worth):
                    worths = [5] * 14
                    worths[thing] = worth
                    if 0 <= worth <= 1000:
                        self.assertEqual(Tree([0] * 13, worths).worths(), worths)
                    else:
                        self.assert_refused(BadTree, Tree, [0] * 13, worths)

    def test_worths_all_at_an_edge(self):
        self.assertEqual(Tree(list(range(13)), [0] * 14).worth_below(0), 0)
        self.assertEqual(Tree(list(range(13)), [1000] * 14).worth_below(0), 14000)
        self.assertEqual(Tree([], [0]).worth_below(0), 0)
        self.assertEqual(Tree([], [1000]).worth_below(0), 1000)


class NoThings(Refusing):
    def test_each_number_that_is_no_thing(self):
        for things in range(1, 15):
            tree = Tree(list(range(things - 1)), [1] * things)
            far = [-(10**5000), -1000, things + 1000, 10**5000]
            for number in list(range(-16, 0)) + list(range(things, 18)) + far:
                for name in ASKED:
                    with self.subTest(things=things, asked=name):
                        self.assert_refused(NoThing, getattr(tree, name), number)

    def test_no_refusal_at_the_edges(self):
        for things in range(1, 15):
            tree = Tree([0] * (things - 1), [1] * things)
            for thing in [0, things - 1]:
                for name in ASKED:
                    with self.subTest(things=things, asked=name, thing=thing):
                        getattr(tree, name)(thing)

    def test_the_tree_stays_as_it_was_at_a_refusal(self):
        known = KNOWN["the document's tree"]
        tree = Tree(known[0], known[1])
        for name in ASKED:
            for number in [-1, 4]:
                self.assert_refused(NoThing, getattr(tree, name), number)
        self.assertEqual(told(tree), expected(*known))


if __name__ == "__main__":
    unittest.main()
