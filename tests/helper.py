"""What several tests share. Trees are worked out here from their elders alone, without the program."""

import itertools
import random
import unittest

from firetree.errors import BadPlan, BadTree, FireError, NoText, NoThing


def all_elders(things):
    return [list(elders) for elders in itertools.product(*[range(thing) for thing in range(1, things)])]


def path(elders, thing):
    """The thing, its elder and so on, without the first thing."""
    found = []
    while thing > 0:
        found.append(thing)
        thing = elders[thing - 1]
    return found


def depth(elders, thing):
    return len(path(elders, thing))


def deepest(elders):
    return max(depth(elders, thing) for thing in range(len(elders) + 1))


def hangs(elders, thing, upper):
    return upper == 0 or upper in path(elders, thing)


def worth_below(elders, worths, upper):
    return sum(worth for thing, worth in enumerate(worths) if hangs(elders, thing, upper))


def open_things(elders, plan):
    """The things that may be shut off next, each minute at its own depth and below none shut off ahead."""
    return [
        thing
        for thing in range(1, len(elders) + 1)
        if depth(elders, thing) == len(plan) + 1 and not any(hangs(elders, thing, shut) for shut in plan)
    ]


def drawn_elders(draw, things):
    """Some trees are broad, some are like a row, most are between."""
    reach = draw.choice([1, 2, 3, 4, 6, 14])
    return [draw.randrange(max(0, thing - reach), thing) for thing in range(1, things)]


def drawn_trees(seed, how_many):
    draw = random.Random(seed)
    trees = []
    for again in range(how_many):
        things = draw.choice([1, 2, 5, 8, 11, 13, 14, 14, 14])
        most = draw.choice([0, 1, 3, 20, 1000])
        trees.append((drawn_elders(draw, things), [draw.randint(0, most) for thing in range(things)]))
    return trees


class Refusing(unittest.TestCase):
    def assert_refused(self, refusal, call, *values):
        with self.assertRaises(FireError) as caught:
            call(*values)
        self.assertIs(type(caught.exception), refusal)
        self.assertIsInstance(caught.exception, ValueError)
        for other in [BadTree, NoThing, BadPlan, NoText]:
            self.assertEqual(isinstance(caught.exception, other), other is refusal)
