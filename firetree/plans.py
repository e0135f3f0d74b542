"""Plans: the best one, the greedy one, and a ceiling on what any plan saves."""

from firetree.fires import saved


def things_at(tree, depth):
    return [thing for thing in range(tree.things()) if tree.depth(thing) == depth]


def choices(tree, plan):
    safe = []
    for shut in plan:
        safe.extend(tree.below(shut))
    return [thing for thing in things_at(tree, len(plan) + 1) if thing not in safe]


# No plan saves more than the best of those gone through here: a thing shut off far ahead of the fire can be swapped
# for the one above it that the fire comes to next, and shutting off one more thing never makes a plan worse.
def best_from(tree, plan):
    found = [best_from(tree, plan + [thing]) for thing in choices(tree, plan)]
    if len(found) == 0:
        return (saved(tree, plan), plan)
    return max(found, key=lambda pair: pair[0])


def greatest(tree):
    return best_from(tree, [])


def greedy(tree):
    plan = []
    left = choices(tree, plan)
    while len(left) > 0:
        # Of several alike, max tells the first: the one with the least number.
        plan.append(max(left, key=tree.worth_below))
        left = choices(tree, plan)
    return (saved(tree, plan), plan)


def ceiling(tree):
    total = 0
    # No depth is as great as the number of things; a depth that there isn't adds nothing.
    for depth in range(1, tree.things()):
        total = total + max([tree.worth_below(thing) for thing in things_at(tree, depth)], default=0)
    return total
