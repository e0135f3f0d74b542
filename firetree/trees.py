"""Trees: things that hang on one another, each with a worth."""

from firetree.errors import BadTree, NoThing

MOST_THINGS = 14
MOST_WORTH = 1000


# The errors' words hold no number that was handed in: Python refuses to write out one with too many figures.
def check_lengths(elders, worths):
    if len(worths) < 1 or len(worths) > MOST_THINGS:
        raise BadTree(f"a tree has 1 to {MOST_THINGS} things")
    if len(elders) != len(worths) - 1:
        raise BadTree("each thing but the first has one elder")


def check_elders(elders):
    for thing, elder in enumerate(elders, start=1):
        if elder < 0 or elder >= thing:
            raise BadTree("an elder is a thing with a lesser number")


def check_worths(worths):
    for worth in worths:
        if worth < 0 or worth > MOST_WORTH:
            raise BadTree(f"a worth is a whole number from 0 to {MOST_WORTH}")


class Tree:
    def __init__(self, elders, worths):
        check_lengths(elders, worths)
        check_elders(elders)
        check_worths(worths)
        # Copies, since the lists handed in may be changed later.
        self.elder_row = tuple(elders)
        self.worth_row = tuple(worths)

    def elders(self):
        return list(self.elder_row)

    def worths(self):
        return list(self.worth_row)

    def things(self):
        return len(self.worth_row)

    def depth(self, thing):
        self.check_thing(thing)
        steps = 0
        current = thing
        while current > 0:
            current = self.elder_row[current - 1]
            steps = steps + 1
        return steps

    def below(self, thing):
        self.check_thing(thing)
        found = [thing]
        # Elders have lesser numbers, so one rising walk comes to each elder ahead of what hangs on it.
        for other in range(thing + 1, self.things()):
            if self.elder_row[other - 1] in found:
                found.append(other)
        return found

    def worth_below(self, thing):
        return sum([self.worth_row[other] for other in self.below(thing)])

    def check_thing(self, thing):
        if thing < 0 or thing >= self.things():
            raise NoThing("no thing of the tree has this number")
