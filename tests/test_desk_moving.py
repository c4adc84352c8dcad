"""Leaning, taking and dropping."""

import unittest

from patchkin.desk import Desk
from patchkin.errors import Leant, NameTaken, NoPatch
from reading import snapshot, texts_of


def chained_desk():
    """Patches that lean on one another in several steps, and some that lean on none."""
    desk = Desk()
    for store in ("home", "away", "bare"):
        desk.begin(store)
    desk.record("home", "z", "song", ["a", "b"])
    desk.record("home", "y", "list", ["one"])
    desk.record("home", "x", "song", ["a", "m", "b"])
    desk.record("home", "w", "song", ["a", "m", "n", "b"])
    desk.cut("home", "v", "song", [2])
    desk.back("home", "u", "v")
    desk.back("home", "t", "y")
    return desk


class Leaning(unittest.TestCase):
    def test_in_several_steps_the_eldest_first(self):
        desk = chained_desk()
        wanted = {
            "z": [], "y": [], "x": ["z"], "w": ["z", "x"], "v": ["z", "x", "w"], "u": ["z", "x", "w", "v"], "t": ["y"],
        }
        self.assertEqual({name: desk.leans(name) for name in desk.patches()}, wanted)

    def test_through_the_upper_line_alone(self):
        desk = Desk()
        desk.begin("s")
        desk.record("s", "p", "f", ["a"])
        desk.record("s", "q", "f", ["a", "b"])
        self.assertEqual(desk.leans("q"), ["p"])

    def test_through_the_lower_line_alone(self):
        desk = Desk()
        desk.begin("s")
        desk.record("s", "p", "f", ["b"])
        desk.record("s", "q", "f", ["a", "b"])
        self.assertEqual(desk.leans("q"), ["p"])

    def test_through_cut_lines_alone(self):
        desk = Desk()
        desk.begin("s")
        desk.record("s", "p", "f", ["a"])
        desk.record("s", "q", "f", [])
        self.assertEqual(desk.leans("q"), ["p"])

    def test_not_on_patches_whose_lines_are_only_near(self):
        desk = Desk()
        desk.begin("s")
        desk.record("s", "p", "f", ["a", "b"])
        desk.record("s", "q", "f", ["0", "a", "b"])
        desk.record("s", "r", "f", ["0", "a", "b", "c"])
        desk.record("s", "t", "g", ["a"])
        desk.cut("s", "u", "f", [3])
        desk.back("s", "v", "r")
        self.assertEqual([desk.leans(name) for name in ("r", "t", "u", "v")], [["p"], [], ["p", "r"], ["p", "r"]])

    def test_a_patch_that_exchanges_a_line_leans_on_all_three(self):
        desk = Desk()
        desk.begin("s")
        desk.record("s", "q", "f", ["b"])
        desk.record("s", "p", "f", ["a", "b"])
        desk.record("s", "o", "f", ["a", "b", "c"])
        desk.record("s", "n", "f", ["a", "x", "c"])
        self.assertEqual(desk.told("n"), ("f", [("x", ("p", 0), ("o", 0))], [("q", 0)], None))
        self.assertEqual(desk.leans("n"), ["q", "p", "o"])

    def test_no_patch_leans_on_itself(self):
        desk = chained_desk()
        desk.record("home", "long", "new", ["a", "b", "c"])
        self.assertEqual(desk.leans("long"), [])
        desk.drop("home", "long")
        self.assertNotIn("long", desk.has("home"))


class Taking(unittest.TestCase):
    def test_what_a_patch_leans_on_comes_along_the_eldest_first(self):
        desk = chained_desk()
        self.assertEqual(desk.take("away", "home", "w"), ["z", "x", "w"])
        self.assertEqual(desk.has("away"), ["z", "x", "w"])
        self.assertEqual(texts_of(desk, "away", "song"), ["a", "m", "n", "b"])
        self.assertEqual(desk.take("away", "home", "u"), ["v", "u"])
        self.assertEqual(desk.take("away", "home", "t"), ["y", "t"])
        self.assertEqual(desk.has("away"), desk.has("home"))
        self.assertEqual(desk.row("away", "song"), desk.row("home", "song"))

    def test_what_is_there_does_not_come_again(self):
        desk = chained_desk()
        desk.take("away", "home", "w")
        before = snapshot(desk)
        for name in ("z", "x", "w"):
            self.assertEqual(desk.take("away", "home", name), [])
        self.assertEqual(snapshot(desk), before)

    def test_from_itself_nothing_comes(self):
        desk = chained_desk()
        before = snapshot(desk)
        for name in desk.has("home"):
            self.assertEqual(desk.take("home", "home", name), [])
        self.assertEqual(snapshot(desk), before)

    def test_the_source_keeps_all(self):
        desk = chained_desk()
        had = desk.has("home")
        desk.take("bare", "home", "u")
        self.assertEqual(desk.has("home"), had)
        self.assertEqual(desk.patches(), had)

    def test_over_a_store_between(self):
        desk = chained_desk()
        desk.take("away", "home", "x")
        self.assertEqual(desk.take("bare", "away", "x"), ["z", "x"])
        with self.assertRaises(NoPatch):
            desk.take("bare", "away", "w")

    def test_from_a_store_that_has_it_not(self):
        desk = chained_desk()
        before = snapshot(desk)
        for store, source, name in (
            ("home", "away", "z"), ("away", "bare", "z"), ("away", "away", "z"), ("away", "home", "none"),
            ("home", "home", "none"), ("away", "home", ""), ("away", "home", "song"), ("away", "home", "home"),
        ):
            with self.assertRaises(NoPatch):
                desk.take(store, source, name)
        self.assertEqual(snapshot(desk), before)

    def test_in_any_order(self):
        desk = chained_desk()
        for name in ("t", "z", "v", "u"):
            desk.take("away", "home", name)
        for name in ("u", "t"):
            desk.take("bare", "home", name)
        self.assertEqual(desk.has("away"), desk.has("bare"))
        self.assertEqual(desk.row("away", "song"), desk.row("bare", "song"))


class Dropping(unittest.TestCase):
    def test_a_patch_on_which_another_one_leans(self):
        desk = chained_desk()
        before = snapshot(desk)
        for name in ("z", "y", "x", "w", "v"):
            with self.assertRaises(Leant):
                desk.drop("home", name)
        self.assertEqual(snapshot(desk), before)

    def test_only_the_patches_of_the_store_count(self):
        desk = chained_desk()
        desk.take("away", "home", "x")
        desk.drop("away", "x")
        desk.drop("away", "z")
        self.assertEqual(desk.has("away"), [])
        self.assertEqual(desk.has("home"), ["z", "y", "x", "w", "v", "u", "t"])

    def test_a_patch_that_is_not_there(self):
        desk = chained_desk()
        desk.take("away", "home", "z")
        before = snapshot(desk)
        for store, name in (("away", "x"), ("bare", "z"), ("home", "none"), ("home", ""), ("home", "home")):
            with self.assertRaises(NoPatch):
                desk.drop(store, name)
        self.assertEqual(snapshot(desk), before)

    def test_twice(self):
        desk = chained_desk()
        desk.drop("home", "t")
        with self.assertRaises(NoPatch):
            desk.drop("home", "t")

    def test_a_dropped_patch_stays_on_the_desk(self):
        desk = chained_desk()
        told, leans, patches = desk.told("u"), desk.leans("u"), desk.patches()
        desk.drop("home", "u")
        self.assertEqual((desk.told("u"), desk.leans("u"), desk.patches()), (told, leans, patches))
        self.assertEqual(texts_of(desk, "home", "song"), ["a", "m", "b"])

    def test_its_name_stays_taken(self):
        desk = chained_desk()
        desk.drop("home", "t")
        before = snapshot(desk)
        for store in desk.stores():
            with self.assertRaises(NameTaken):
                desk.record(store, "t", "new", ["x"])
        with self.assertRaises(NameTaken):
            desk.cut("home", "t", "song", [0])
        with self.assertRaises(NameTaken):
            desk.back("home", "t", "y")
        self.assertEqual(snapshot(desk), before)

    def test_it_can_be_taken_again_and_keeps_its_age(self):
        desk = chained_desk()
        desk.take("away", "home", "t")
        before = snapshot(desk)
        desk.drop("home", "t")
        desk.drop("home", "y")
        self.assertEqual(desk.has("home"), ["z", "x", "w", "v", "u"])
        self.assertEqual(desk.take("home", "away", "t"), ["y", "t"])
        self.assertEqual(snapshot(desk), before)

    def test_what_no_store_has_can_not_be_taken(self):
        desk = chained_desk()
        desk.drop("home", "t")
        for store in desk.stores():
            with self.assertRaises(NoPatch):
                desk.take("bare", store, "t")

    def test_lines_go_with_their_patch_and_cut_ones_come_back(self):
        desk = chained_desk()
        for name in ("u", "v", "w"):
            desk.drop("home", name)
        self.assertEqual(texts_of(desk, "home", "song"), ["a", "m", "b"])
        desk.cut("home", "c", "song", [0])
        desk.drop("home", "c")
        self.assertEqual(texts_of(desk, "home", "song"), ["a", "m", "b"])

    def test_a_drop_in_one_store_leaves_the_others(self):
        desk = chained_desk()
        desk.take("away", "home", "w")
        desk.drop("away", "w")
        self.assertEqual((desk.has("away"), len(desk.has("home"))), (["z", "x"], 7))
        self.assertEqual(texts_of(desk, "home", "song"), ["a", "m", "n", "b"])


if __name__ == "__main__":
    unittest.main()
