import itertools
import random
import unittest

from firetree.errors import BadPlan, FireError, NoThing
from firetree.fires import burnt, saved
from firetree.trees import Tree
from helper import Refusing, all_elders, deepest, depth, drawn_elders, drawn_trees, path

ROW = list(range(13))
STAR = [0] * 13
# Things 1, 2, 3 on the first, 4 and 5 on 1, 6 on 2, 7 on 4, 8 on 7.
BUSH = [0, 0, 0, 1, 1, 2, 4, 7]

# Each: elders, plan, what burns, worked out by hand.
KNOWN = {
    "one thing, no plan": ([], [], [[0]]),
    "one thing, None": ([], [None], [[0]]),
    "one thing, many a None": ([], [None] * 40, [[0]]),
    "the document's tree": ([0, 0, 1], [], [[0], [1, 2], [3]]),
    "the document's tree, None": ([0, 0, 1], [None], [[0], [1, 2], [3]]),
    "the document's tree, None to the end": ([0, 0, 1], [None, None], [[0], [1, 2], [3]]),
    "the document's tree, None beyond the end": ([0, 0, 1], [None] * 5, [[0], [1, 2], [3]]),
    "shut off at the very minute": ([0, 0, 1], [1], [[0], [2]]),
    "shut off at the very minute, the last one": ([0, 0, 1], [None, 3], [[0], [1, 2]]),
    "shut off ahead of the fire": ([0, 0, 1], [3], [[0], [1, 2]]),
    "below one shut off, shut off too": ([0, 0, 1], [1, 3], [[0], [2]]),
    "shut off ahead of the fire, then None": ([0, 0, 1], [3, None], [[0], [1, 2]]),
    "all shut off": ([0], [1], [[0]]),
    "all shut off, one of them behind the end": ([0, 1], [1, None, None, None, 2], [[0]]),
    "behind the last spreading": ([0, 0, 1], [1, None, None, None, 3], [[0], [2]]),
    "behind the last spreading, None behind it": ([0, 0, 1], [1, None, None, 3, None, None], [[0], [2]]),
    "fourteen in a row": (ROW, [], [[thing] for thing in range(14)]),
    "fourteen in a row, None": (ROW, [None] * 14, [[thing] for thing in range(14)]),
    "fourteen in a row, the next": (ROW, [1], [[0]]),
    "fourteen in a row, the last at the first minute": (ROW, [13], [[thing] for thing in range(13)]),
    "fourteen in a row, the last at its minute": (ROW, [None] * 12 + [13], [[thing] for thing in range(13)]),
    "fourteen in a row, the middle at its minute": (ROW, [None] * 6 + [7], [[thing] for thing in range(7)]),
    "fourteen in a row, one after another from below": (
        ROW,
        [13, 12, 11, 10, 9, 8, 7],
        [[0], [1], [2], [3], [4], [5], [6]],
    ),
    "fourteen in a row, all": (ROW, list(range(1, 14)), [[0]]),
    "fourteen on the first": (STAR, [], [[0], list(range(1, 14))]),
    "fourteen on the first, one": (STAR, [7], [[0], [1, 2, 3, 4, 5, 6, 8, 9, 10, 11, 12, 13]]),
    "fourteen on the first, one, then None": (STAR, [13, None, None], [[0], list(range(1, 13))]),
    "bush": (BUSH, [], [[0], [1, 2, 3], [4, 5, 6], [7], [8]]),
    "bush, a thing of each depth": (BUSH, [2, 4], [[0], [1, 3], [5]]),
    "bush, far ahead": (BUSH, [7, 6], [[0], [1, 2, 3], [4, 5]]),
    "bush, the last at its minute": (BUSH, [None, None, None, 8], [[0], [1, 2, 3], [4, 5, 6], [7]]),
    "bush, below one, then above it": (BUSH, [8, 4], [[0], [1, 2, 3], [5, 6]]),
    "bush, one branch from its top on": (BUSH, [1, 4, 7, 8, 5], [[0], [2, 3], [6]]),
}

# Each: elders, plan, the refusal.
FAULTS = {
    "the first thing at minute 1": ([], [0], BadPlan),
    "the first thing at minute 1, of four": ([0, 0, 1], [0], BadPlan),
    "the first thing later": ([0, 0, 1], [None, 0], BadPlan),
    "the first thing behind the end": ([0, 0, 1], [None] * 9 + [0], BadPlan),
    "one that caught fire the minute ahead": ([0, 0, 1], [None, 1], BadPlan),
    "one that caught fire the minute ahead, beside one shut off": ([0, 0, 1], [1, 2], BadPlan),
    "the last one, a minute late": ([0, 0, 1], [None, None, 3], BadPlan),
    "one that burns, behind the end": ([0, 0, 1], [None] * 20 + [3], BadPlan),
    "one that burns, behind the end, all else saved": ([0, 0, 1], [1, 3, 2], BadPlan),
    "twice at once": ([0, 0, 1], [1, 1], BadPlan),
    "twice, later": ([0, 0, 1], [1, None, 1], BadPlan),
    "twice, behind the end": ([0, 0, 1], [1] + [None] * 20 + [1], BadPlan),
    "twice, far ahead of the fire": (ROW, [13, None, 13], BadPlan),
    "twice, far behind one shut off": (ROW, [1, 13, 13], BadPlan),
    "below nought": ([0, 0, 1], [-1], NoThing),
    "far below nought": ([0, 0, 1], [-4], NoThing),
    "the number of things": ([0, 0, 1], [4], NoThing),
    "one thing, number 1": ([], [1], NoThing),
    "one thing, number -1": ([], [-1], NoThing),
    "fourteen": (ROW, [14], NoThing),
    "no thing, later": ([0, 0, 1], [1, 4], NoThing),
    "no thing, behind the end": ([0, 0, 1], [None] * 20 + [4], NoThing),
    "below nought, behind the end": ([], [None] * 20 + [-1], NoThing),
    "a huge number": ([0, 0, 1], [10**5000], NoThing),
    "a huge number below nought": ([0, 0, 1], [None, -(10**5000)], NoThing),
    "burning, then no thing": ([0, 0, 1], [0, 4], BadPlan),
    "no thing, then burning": ([0, 0, 1], [4, 0], NoThing),
    "no thing, then twice": ([0, 0, 1], [1, -1, 1], NoThing),
    "twice, then no thing": ([0, 0, 1], [1, 1, -1], BadPlan),
    "twice, then burning, then no thing": ([0, 0, 1], [1, 1, 2, 4], BadPlan),
    "behind the end: burning, then no thing": ([0, 0, 1], [None] * 9 + [3, 4], BadPlan),
    "behind the end: no thing, then burning": ([0, 0, 1], [None] * 9 + [4, 3], NoThing),
    "behind the end: twice, then no thing": ([0, 0, 1], [1] + [None] * 9 + [1, 4], BadPlan),
    "behind the end: no thing, then twice": ([0, 0, 1], [1] + [None] * 9 + [4, 1], NoThing),
    "no thing twice": ([0, 0, 1], [4, 4], NoThing),
}


def catches(elders, shut, thing):
    return all(depth(elders, upper) < shut.get(upper, 99) for upper in path(elders, thing))


def reference(elders, plan):
    """What burns, or the refusal: from the minutes at which the things on each path are shut off, step for step."""
    shut = {}
    for minute, thing in enumerate(plan, start=1):
        if thing is None:
            continue
        if thing not in range(len(elders) + 1):
            return NoThing
        if thing in shut or (depth(elders, thing) < minute and catches(elders, shut, thing)):
            return BadPlan
        shut[thing] = minute
    burning = [thing for thing in range(len(elders) + 1) if catches(elders, shut, thing)]
    last = max(depth(elders, thing) for thing in burning)
    return [[thing for thing in burning if depth(elders, thing) == minute] for minute in range(last + 1)]


def powers(things):
    """Of up to ten things, each choice has a sum of its own; a worth can't go on doubling beyond 1000."""
    return [2 ** min(thing, 9) for thing in range(things)]


def unburnt_worth(worths, rows):
    return sum(worths) - sum(worths[thing] for row in rows for thing in row)


def drawn_plan(draw, things):
    if draw.random() < 0.5:
        steps = draw.sample(range(1, things), draw.randrange(things))
    else:
        steps = [draw.randint(-1, things) for again in range(draw.randrange(things + 3))]
    for again in range(draw.randrange(8)):
        steps.insert(draw.randint(0, len(steps)), None)
    return steps


class WhatBurns(Refusing):
    def assert_as_the_reference(self, elders, plan):
        tree = Tree(elders, powers(len(elders) + 1))
        answer = reference(elders, plan)
        if isinstance(answer, list):
            self.assertEqual(burnt(tree, plan), answer)
            self.assertEqual(saved(tree, plan), unburnt_worth(tree.worths(), answer))
            return
        self.assert_refused(answer, burnt, tree, plan)
        self.assert_refused(answer, saved, tree, plan)

    def test_known_fires(self):
        for name, (elders, plan, rows) in KNOWN.items():
            with self.subTest(name):
                self.assertEqual(burnt(Tree(elders, [1] * (len(elders) + 1)), plan), rows)

    def test_what_is_saved_of_known_fires(self):
        for name, (elders, plan, rows) in KNOWN.items():
            with self.subTest(name):
                worths = powers(len(elders) + 1)
                self.assertEqual(saved(Tree(elders, worths), plan), unburnt_worth(worths, rows))

    def test_worths_saved(self):
        tree = Tree([0, 0, 1], [7, 5, 3, 10])
        self.assertEqual(saved(tree, []), 0)
        self.assertEqual(saved(tree, [1]), 15)
        self.assertEqual(saved(tree, [2]), 3)
        self.assertEqual(saved(tree, [3]), 10)
        self.assertEqual(saved(tree, [2, 3]), 13)
        self.assertEqual(saved(tree, [None, 3]), 10)
        self.assertEqual(saved(tree, [1, None, 3]), 15)
        self.assertEqual(saved(Tree([], [1000]), []), 0)
        self.assertEqual(saved(Tree(ROW, [1000] * 14), [1]), 13000)
        self.assertEqual(saved(Tree(ROW, [0] * 14), [1]), 0)

    def test_kinds(self):
        tree = Tree([0, 0, 1], [7, 5, 3, 10])
        rows = burnt(tree, [None, 3])
        self.assertIs(type(rows), list)
        for row in rows:
            self.assertIs(type(row), list)
            self.assertEqual([type(thing) for thing in row], [int] * len(row))
        self.assertIs(type(saved(tree, [None, 3])), int)

    def test_the_names_of_the_arguments(self):
        tree = Tree([0], [3, 4])
        self.assertEqual(burnt(tree=tree, plan=[1]), [[0]])
        self.assertEqual(saved(tree=tree, plan=[1]), 4)

    def test_every_short_plan_on_every_small_tree(self):
        for things, minutes in [(1, 4), (2, 5), (3, 5), (4, 4), (5, 3)]:
            steps = [None] + list(range(-1, things + 1))
            for elders in all_elders(things):
                for length in range(minutes + 1):
                    for plan in itertools.product(steps, repeat=length):
                        self.assert_as_the_reference(elders, list(plan))

    def test_drawn_plans_on_drawn_trees(self):
        draw = random.Random(4)
        for again in range(2000):
            things = draw.randint(1, 14)
            elders, plan = drawn_elders(draw, things), drawn_plan(draw, things)
            with self.subTest(elders=elders, plan=plan):
                self.assert_as_the_reference(elders, plan)

    def test_without_a_plan_each_thing_burns_at_its_depth(self):
        for elders, worths in drawn_trees(5, 100):
            rows = [
                [thing for thing in range(len(worths)) if depth(elders, thing) == minute]
                for minute in range(deepest(elders) + 1)
            ]
            tree = Tree(elders, worths)
            for plan in [[], [None], [None] * len(rows), [None] * 30]:
                with self.subTest(elders=elders, plan=plan):
                    self.assertEqual(burnt(tree, plan), rows)
                    self.assertEqual(saved(tree, plan), 0)


class Faults(Refusing):
    def test_known_faults(self):
        for name, (elders, plan, refusal) in FAULTS.items():
            for call in [burnt, saved]:
                with self.subTest(name, call=call.__name__):
                    self.assert_refused(refusal, call, Tree(elders, [1] * (len(elders) + 1)), plan)

    def test_each_number_that_is_no_thing(self):
        for things in range(1, 15):
            tree = Tree(list(range(things - 1)), [1] * things)
            for number in list(range(-16, 0)) + list(range(things, 18)):
                for plan in [[number], [None, number], [None] * 20 + [number]]:
                    for call in [burnt, saved]:
                        with self.subTest(things=things, plan=plan, call=call.__name__):
                            self.assert_refused(NoThing, call, tree, plan)

    def test_each_thing_a_minute_late(self):
        for elders in [ROW, STAR, BUSH]:
            tree = Tree(elders, [1] * (len(elders) + 1))
            for thing in range(len(elders) + 1):
                at = depth(elders, thing)
                for call in [burnt, saved]:
                    with self.subTest(elders=elders, thing=thing, call=call.__name__):
                        for late in range(0, 5):
                            self.assert_refused(BadPlan, call, tree, [None] * (at + late) + [thing])
                        if thing > 0:
                            call(tree, [None] * (at - 1) + [thing])

    def test_the_plan_and_the_tree_stay_as_they_were(self):
        for name, (elders, plan, refusal) in FAULTS.items():
            for call in [burnt, saved]:
                with self.subTest(name, call=call.__name__):
                    handed, worths = list(plan), powers(len(elders) + 1)
                    tree = Tree(elders, worths)
                    with self.assertRaises(FireError):
                        call(tree, handed)
                    self.assertTrue(handed == plan)
                    self.assertEqual((tree.elders(), tree.worths()), (elders, worths))
                    self.assertEqual(burnt(tree, []), reference(elders, []))


class WhoseListsTheyAre(unittest.TestCase):
    def test_the_plan_and_the_tree_stay_as_they_were(self):
        for name, (elders, plan, rows) in KNOWN.items():
            for call in [burnt, saved]:
                with self.subTest(name, call=call.__name__):
                    handed, worths = list(plan), powers(len(elders) + 1)
                    tree = Tree(elders, worths)
                    call(tree, handed)
                    self.assertEqual(handed, plan)
                    self.assertEqual((tree.elders(), tree.worths()), (elders, worths))

    def test_what_was_told_may_be_changed(self):
        for name, (elders, plan, rows) in KNOWN.items():
            with self.subTest(name):
                tree = Tree(elders, powers(len(elders) + 1))
                worth = saved(tree, plan)
                told = burnt(tree, plan)
                for row in told:
                    row.append(99)
                    row[0] = 55
                told.append([7])
                self.assertEqual(burnt(tree, plan), rows)
                for row in told:
                    row.clear()
                told.clear()
                self.assertEqual(burnt(tree, plan), rows)
                self.assertEqual(saved(tree, plan), worth)

    def test_a_changed_plan_is_a_new_plan(self):
        tree, plan = Tree([0, 0, 1], [7, 5, 3, 10]), [1]
        told = burnt(tree, plan)
        plan[0] = 2
        self.assertEqual(told, [[0], [2]])
        self.assertEqual(burnt(tree, plan), [[0], [1], [3]])
        self.assertEqual(saved(tree, plan), 3)
        plan.append(3)
        self.assertEqual(burnt(tree, plan), [[0], [1]])
        self.assertEqual(saved(tree, plan), 13)
        plan.clear()
        self.assertEqual(burnt(tree, plan), [[0], [1, 2], [3]])

    def test_no_two_lists_are_one(self):
        tree, plan = Tree([0, 0, 1], [7, 5, 3, 10]), []
        lists = [plan, tree.elders(), tree.worths()]
        for again in range(3):
            rows = burnt(tree, plan)
            lists += [rows] + rows
        self.assertEqual(len({id(each) for each in lists}), len(lists))

    def test_two_trees_by_turns(self):
        one, other = Tree([0, 0, 1], [0, 5, 3, 10]), Tree([0, 1, 2], [1, 2, 4, 8])
        for again in range(3):
            self.assertEqual(burnt(one, [2]), [[0], [1], [3]])
            self.assertEqual(burnt(other, [2]), [[0], [1]])
            self.assertEqual(saved(one, [1]), 15)
            self.assertEqual(saved(other, [None, 2]), 12)
            with self.assertRaises(BadPlan):
                burnt(other, [None, 1])
            self.assertEqual(burnt(one, [None, 3]), [[0], [1, 2]])


if __name__ == "__main__":
    unittest.main()
