"""Notes: how a tree is written, and read again."""

from firetree.errors import BadTree, NoText
from firetree.trees import Tree

FIGURES = "0123456789"
# No number of a tree has more figures, and Python refuses to read one with too many.
MOST_FIGURES = 4


def shown(tree):
    elders = ["-"] + [str(elder) for elder in tree.elders()]
    return " ".join([f"{elder}:{worth}" for elder, worth in zip(elders, tree.worths())])


def is_number(part):
    if part == "" or len(part) > MOST_FIGURES:
        return False
    if part[0] == "0" and part != "0":
        return False
    return all([sign in FIGURES for sign in part])


def number_of(part):
    if not is_number(part):
        raise NoText("a number is written by figures, without a needless nought")
    return int(part)


def halves_of(part):
    halves = part.split(":")
    if len(halves) != 2:
        raise NoText("a thing is written as its elder, a colon and its worth")
    return halves


def read(text):
    pairs = [halves_of(part) for part in text.split(" ")]
    if pairs[0][0] != "-":
        raise NoText("the first thing's elder is written as -")
    elders = [number_of(pair[0]) for pair in pairs[1:]]
    worths = [number_of(pair[1]) for pair in pairs]
    try:
        return Tree(elders, worths)
    except BadTree:
        raise NoText("the text writes what is no tree") from None
