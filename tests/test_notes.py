import random
import re
import unittest

from firetree.errors import NoText
from firetree.fires import burnt
from firetree.notes import read, shown
from firetree.trees import Tree
from helper import Refusing, all_elders, drawn_trees

# Each: elders, worths, the text.
KNOWN = {
    "the document's tree": ([0, 0, 1], [0, 5, 3, 10], "-:0 0:5 0:3 1:10"),
    "one thing without worth": ([], [0], "-:0"),
    "one thing": ([], [7], "-:7"),
    "one thing of the greatest worth": ([], [1000], "-:1000"),
    "two things": ([0], [1000, 0], "-:1000 0:0"),
    "worths of all lengths": ([0, 1, 2, 3], [0, 9, 10, 999, 1000], "-:0 0:9 1:10 2:999 3:1000"),
    "fourteen in a row": (
        list(range(13)),
        [1000] * 14,
        "-:1000 0:1000 1:1000 2:1000 3:1000 4:1000 5:1000 6:1000 7:1000 8:1000 9:1000 10:1000 11:1000 12:1000",
    ),
    "fourteen on the first": (
        [0] * 13,
        list(range(14)),
        "-:0 0:1 0:2 0:3 0:4 0:5 0:6 0:7 0:8 0:9 0:10 0:11 0:12 0:13",
    ),
}

NO_TEXTS = {
    "nothing": ["", "-", ":", "-:", ":0", "0"],
    "blanks": [" ", "  ", " -:0", "-:0 ", "-:0  0:5", "-:0 0:5 ", " -:0 0:5", "-: 0", "- :0", "-:0 0 :5", "-:0 0: 5"],
    "no blank": ["-:00:5", "-:0,0:5", "-:0;0:5", "-:0_0:5"],
    "tabs and line ends": [
        "\t", "\n", "-:0\n", "\n-:0", "-:0\t", "\t-:0", "-:0\t0:5", "-:0\n0:5", "-:0 0:5\n", "-:0 \n0:5", "-:0\n 0:5",
        "-:\t0", "-\t:0", "-:0 0:\n5", "-:0 0\n:5", "-:0 0:5\r", "-:0 0:5\r\n", "-:0\r0:5", "-:1\n0", "-:\n",
    ],
    "signs of numbers": [
        "-:+0", "-:-0", "-:+5", "-:-5", "-:0 +0:5", "-:0 -0:5", "-:0 0:+5", "-:0 0:-5", "-:1_0", "-:1_000", "-:_1",
        "-:1_", "-:0 0_0:5", "-:0 0:1_0", "-:1.0", "-:1,0", "-:1e2", "-:0x1", "-:0b1", "-:a", "-:0 a:5", "-:0 0:b",
        "-:0 0:5.", "-:#1", "-:'1'", "-:(1)", "-:~1",
    ],
    "a needless nought": [
        "-:00", "-:01", "-:000", "-:0000", "-:010", "-:0 00:5", "-:0 0:05", "-:0 0:00", "-:0 0:5 01:3", "-:0 0:0010",
        "-:01000", "-:00 0:5", "-:05 0:5", "-:0 000:5",
    ],
    "a number that is missing": ["-:", "-: 0:5", "-:0 :5", "-:0 0:", "-:0 :", "-:0 0: 1:5", "-:0 0:5 :5"],
    "colons": [
        "-0", "-:0 05", "-::0", ":-:0", "-:0:", "-:0:0", "-:0 0:5:", "-:0 :0:5", "-:0 0::5", "-:0 0:5:1", "-:0:0 0:5",
        "-;0", "-=0", "-:0 0-5", "-:0 5", "-:0 0 5", "0:5 -:0:1",
    ],
    "the first one's elder": ["0:0", "0:0 0:5", "1:0", ":0 0:5", "--:0", "+:0", "_:0", "-1:0", "-0:0", "None:0", "-1"],
    "- in another place": ["-:-", "-:0 -:5", "-:0 0:-", "-:0 0:5 -:3", "0:5 -:0", "-:0 0:3 0:5-", "-:0-", "-:0 0-:5"],
    "an elder that is no lesser number": [
        "-:0 1:5", "-:0 2:5", "-:0 0:5 2:5", "-:0 0:5 3:5", "-:0 0:5 1:5 3:5", "-:0 13:5", "-:0 10:5", "-:0 99999:5",
        "-:0 0:1 0:1 0:1 0:1 0:1 0:1 0:1 0:1 0:1 0:1 0:1 0:1 13:1",
    ],
    "a worth above 1000": [
        "-:1001", "-:1002", "-:2000", "-:9999", "-:10000", "-:0 0:1001", "-:0 0:5 1:10000", "-:10000000000",
    ],
    "more than fourteen things": [
        "-:0" + " 0:0" * 14, "-:0" + " 0:0" * 15, "-:0" + " 0:0" * 74, "-:1 0:1 1:1 2:1 3:1 4:1 5:1 6:1 7:1 8:1 9:1 "
        "10:1 11:1 12:1 13:1",
    ],
    "very many figures": [
        "-:" + "1" * 298, "-:" + "0" * 298, "-:0 " + "1" * 294 + ":1", "-:0 0:" + "9" * 294, "1" * 300, "-" * 300,
        "-:0 " + "0" * 294 + ":1", "-:" + "9" * 6000, "-:0 " + "9" * 6000 + ":0", "-:" + "0" * 6000,
    ],
    "very many other signs": [" " * 300, ":" * 300, "\n" * 300, "\t" * 300, "-:0" + " " * 297, "-:" * 150, "-:0 " * 75],
    "other words": ["None", "Tree", "-:zero", "-:0 0:5 # five", "[0] [0, 5]", "-:0 0:5 ~", "-:0 0:5!", "-:0 0:five"],
    "signs beyond the document's": ["-:\u0661", "-:\u00b2", "-:0\u00a00:5", "\u2212:0", "-:0 0:\uff15", "-:0%", "-:%d"],
}

NUMBER = "(0|[1-9][0-9]*)"
FORM = re.compile(f"-:{NUMBER}( {NUMBER}:{NUMBER})*")
SIGNS = ["\t", "\n", "\r"] + [chr(code) for code in range(ord(" "), ord("~") + 1)]


def written(text):
    """The elders and worths that a text writes, or None: by the form as a whole, then by the bounds of a tree."""
    if FORM.fullmatch(text) is None:
        return None
    numbers = [int(figures) for figures in re.findall("[0-9]+", text)]
    elders, worths = numbers[1::2], numbers[0::2]
    if len(worths) > 14 or max(worths) > 1000:
        return None
    if any(elder >= thing for thing, elder in enumerate(elders, start=1)):
        return None
    return (elders, worths)


def one_sign_away(text):
    found = {text}
    for place in range(len(text) + 1):
        found.update(text[:place] + sign + text[place:] for sign in SIGNS)
        found.update(text[:place] + sign + text[place + 1 :] for sign in SIGNS)
        found.add(text[:place] + text[place + 1 :])
    return sorted(found)


class Shown(unittest.TestCase):
    def test_known_trees(self):
        for name, (elders, worths, text) in KNOWN.items():
            with self.subTest(name):
                self.assertEqual(shown(Tree(elders, worths)), text)
                self.assertIs(type(shown(Tree(elders, worths))), str)

    def test_each_worth(self):
        for worth in range(1001):
            self.assertEqual(shown(Tree([0], [worth, 1000 - worth])), f"-:{worth} 0:{1000 - worth}")

    def test_the_names_of_the_arguments(self):
        self.assertEqual(shown(tree=read(text="-:0 0:5")), "-:0 0:5")

    def test_the_tree_stays_as_it_was(self):
        for name, (elders, worths, text) in KNOWN.items():
            with self.subTest(name):
                tree = Tree(elders, worths)
                shown(tree)
                self.assertEqual((tree.elders(), tree.worths()), (elders, worths))
                self.assertEqual(shown(tree), text)


class Read(Refusing):
    def assert_read(self, text, elders, worths):
        tree = read(text)
        self.assertIs(type(tree), Tree)
        self.assertEqual((tree.elders(), tree.worths()), (elders, worths))
        self.assertEqual(tree.things(), len(worths))
        self.assertEqual(shown(tree), text)

    def assert_read_or_refused(self, text):
        answer = written(text)
        if answer is None:
            self.assert_refused(NoText, read, text)
        else:
            self.assert_read(text, *answer)

    def test_known_trees(self):
        for name, (elders, worths, text) in KNOWN.items():
            with self.subTest(name):
                self.assert_read(text, elders, worths)

    def test_each_worth(self):
        for worth in range(1001):
            self.assert_read(f"-:{worth} 0:{1000 - worth}", [0], [worth, 1000 - worth])

    def test_each_elder_of_each_thing(self):
        for thing in range(1, 14):
            for elder in range(17):
                text = "-:0" + " 0:0" * (thing - 1) + f" {elder}:0"
                with self.subTest(text):
                    if elder < thing:
                        self.assert_read(text, [0] * (thing - 1) + [elder], [0] * (thing + 1))
                    else:
                        self.assert_refused(NoText, read, text)

    def test_how_many_things(self):
        for things in range(1, 76):
            text = "-:0" + " 0:0" * (things - 1)
            with self.subTest(things=things):
                if things <= 14:
                    self.assert_read(text, [0] * (things - 1), [0] * things)
                else:
                    self.assert_refused(NoText, read, text)

    def test_every_small_tree(self):
        for things in range(1, 7):
            for elders in all_elders(things):
                worths = [1000 - 199 * thing for thing in range(things)]
                with self.subTest(elders=elders):
                    self.assert_read(shown(Tree(elders, worths)), elders, worths)

    def test_drawn_trees(self):
        for elders, worths in drawn_trees(11, 300):
            with self.subTest(elders=elders, worths=worths):
                self.assert_read(shown(Tree(elders, worths)), elders, worths)

    def test_no_texts(self):
        for name, texts in NO_TEXTS.items():
            for text in texts:
                with self.subTest(name, text=text[:40]):
                    self.assert_refused(NoText, read, text)

    def test_each_text_one_sign_away(self):
        for text in ["", "-:0", "-:0 0:5 0:3 1:10", "-:1000 0:100 1:999", "-:0" + " 0:0" * 10 + " 1:9"]:
            for other in one_sign_away(text):
                with self.subTest(other):
                    self.assert_read_or_refused(other)

    def test_each_text_of_up_to_four_signs(self):
        signs = "-:01 2+\n"
        texts = [""]
        for length in range(4):
            texts += [text + sign for text in texts if len(text) == length for sign in signs]
        for text in texts:
            self.assert_read_or_refused(text)

    def test_drawn_texts(self):
        draw = random.Random(12)
        for again in range(3000):
            text = "".join(draw.choice("--::::000123459 \t\n_+") for sign in range(draw.randrange(30)))
            self.assert_read_or_refused(text)
            self.assert_read_or_refused("-:0" + text)

    def test_drawn_texts_of_any_sign(self):
        draw = random.Random(13)
        for again in range(500):
            self.assert_read_or_refused("".join(draw.choice(SIGNS) for sign in range(draw.choice([1, 3, 20, 300]))))

    def test_a_tree_that_was_read_is_a_tree_like_any(self):
        one, other = read("-:0 0:5 0:3 1:10"), read("-:0 0:5 0:3 1:10")
        one.elders().append(7)
        one.worths().clear()
        for tree in [one, other]:
            self.assertEqual((tree.elders(), tree.worths()), ([0, 0, 1], [0, 5, 3, 10]))
            self.assertEqual(tree.below(1), [1, 3])
            self.assertEqual(burnt(tree, [1]), [[0], [2]])

    def test_a_refusal_changes_nothing(self):
        tree = read("-:0 0:5")
        self.assert_refused(NoText, read, "-:0 1:5")
        self.assertEqual(shown(tree), "-:0 0:5")
        self.assertEqual(shown(read("-:0 0:5")), "-:0 0:5")


if __name__ == "__main__":
    unittest.main()
