"""Fires: what burns under a plan, minute by minute, and what the plan saves."""

from firetree.errors import BadPlan


def check_step(tree, thing, burning, shut):
    tree.check_thing(thing)
    if thing in burning:
        raise BadPlan("a thing of the plan burns already at its minute")
    if thing in shut:
        raise BadPlan("a thing of the plan is shut off already")


def catching(elders, burning, shut):
    settled = burning + shut
    return [thing for thing, elder in enumerate(elders, start=1) if elder in burning and thing not in settled]


def burnt(tree, plan):
    elders = tree.elders()
    rows = [[0]]
    burning = [0]
    shut = []
    # As many minutes as there are things see any fire to its end. The plan is gone through to its own end besides,
    # since a step behind the end of the fire may be a fault too.
    for thing in plan + [None] * tree.things():
        if thing is not None:
            check_step(tree, thing, burning, shut)
            shut.append(thing)
        caught = catching(elders, burning, shut)
        # A fire that has not spread in one minute spreads in none behind it, so this leaves out no minute between.
        if len(caught) > 0:
            rows.append(caught)
        burning = burning + caught
    return rows


def saved(tree, plan):
    worths = tree.worths()
    left = sum(worths)
    for row in burnt(tree, plan):
        left = left - sum([worths[thing] for thing in row])
    return left
