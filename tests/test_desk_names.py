"""Stores, names, the orders of the lists that a desk tells, their kinds, and that nothing
hangs on a list that was handed in or given back."""

import unittest

from patchkin.desk import Desk
from patchkin.errors import BadName, NameTaken
from reading import snapshot

GOOD = ["a", "z", "0", "9", "abcdefghijkl", "mnopqrstuvwx", "yz", "012345678901", "a1b2", "00", "7up"]
BAD = [
    "", "abcdefghijklm", "0" * 13, "a" * 200, "A", "Z", "aB", "storE", " ", " a", "a ", "a b", "\n", "a\n", "\na",
    "a\n\n", "a\r", "a\t", "a\x00", "a_b", "_", "a-b", "a.b", "a/b", "`", "{", ":", "@", "[", "%", "~", "!", "'",
    "\u00e9", "\u00df", "\u0430", "a\u0301", "\u0131", "\uff41", "\u00aa", "\u0663", "\u00b2", "\uff11", "\u2170",
    "a\u2028", "a\u00a0", "\u00bd", "abcdefghijkl\n", "\U0001d41a",
]


def small_desk():
    """Two stores that changed the same file apart and one of which took from the other."""
    desk = Desk()
    for store in ("home", "away"):
        desk.begin(store)
    desk.record("home", "p2", "song", ["la", "lo"])
    desk.take("away", "home", "p2")
    desk.record("home", "p1", "song", ["la", "hey", "lo", "end"])
    desk.record("away", "p0", "song", ["la", "mm"])
    desk.record("away", "p9", "list", ["one"])
    desk.back("away", "p8", "p9")
    for name in ("p0", "p8"):
        desk.take("home", "away", name)
    return desk


class Names(unittest.TestCase):
    def test_good_names_of_stores(self):
        desk = Desk()
        for name in GOOD:
            self.assertIsNone(desk.begin(name))
            self.assertEqual(desk.has(name), [])
        self.assertEqual(desk.stores(), GOOD)

    def test_good_names_of_patches_and_files(self):
        for name in GOOD:
            desk = Desk()
            desk.begin("s")
            self.assertIsNone(desk.record("s", name, name, ["x"]))
            self.assertEqual(desk.row("s", name), [(name, 0, "x")])
            self.assertEqual((desk.patches(), desk.files("s")), ([name], [name]))

    def test_bad_names_everywhere(self):
        desk = small_desk()
        before = snapshot(desk)
        for name in BAD:
            calls = (
                (desk.begin, name), (desk.record, "home", name, "list", ["x"]), (desk.record, "home", "new", name, ["x"]),
                (desk.cut, "home", name, "song", [0]), (desk.cut, "home", "new", name, [0]), (desk.back, "home", name, "p1"),
            )
            for call, *handed in calls:
                with self.subTest(name=name, call=call.__name__):
                    with self.assertRaises(BadName):
                        call(*handed)
        self.assertEqual(snapshot(desk), before)

    def test_a_sought_file_that_is_no_name_is_a_file_without_lines(self):
        desk = small_desk()
        for name in BAD:
            self.assertEqual((desk.row("home", name), desk.quarrels("home", name), desk.stay("home", name)), ([], [], []))

    def test_taken_names_of_stores(self):
        desk = Desk()
        desk.begin("one")
        desk.begin("two")
        for name in ("one", "two", "one"):
            with self.assertRaises(NameTaken):
                desk.begin(name)
        self.assertEqual(desk.stores(), ["one", "two"])

    def test_a_taken_store_keeps_its_patches(self):
        desk = small_desk()
        before = snapshot(desk)
        with self.assertRaises(NameTaken):
            desk.begin("home")
        self.assertEqual(snapshot(desk), before)

    def test_a_store_a_patch_and_a_file_may_bear_one_name(self):
        desk = Desk()
        desk.begin("same")
        desk.record("same", "same", "same", ["x"])
        desk.begin("other")
        desk.record("same", "other", "other", ["y"])
        desk.begin("third")
        self.assertEqual(desk.row("same", "same"), [("same", 0, "x")])
        self.assertEqual(desk.files("same"), ["other", "same"])
        self.assertEqual(desk.row("other", "other"), [])
        with self.assertRaises(NameTaken):
            desk.record("third", "same", "third", ["x"])

    def test_names_of_files_are_of_all_stores(self):
        desk = Desk()
        for store in ("one", "two"):
            desk.begin(store)
            desk.record(store, "p" + store, "song", [store])
        desk.take("one", "two", "ptwo")
        self.assertEqual(desk.row("one", "song"), [("pone", 0, "one"), ("ptwo", 0, "two")])
        self.assertEqual(desk.quarrels("one", "song"), [(0, 1)])

    def test_at_most_twelve_stores_and_more(self):
        desk = Desk()
        names = [f"s{number}" for number in range(15)]
        for name in names:
            desk.begin(name)
        self.assertEqual(desk.stores(), names)


class Orders(unittest.TestCase):
    def test_a_new_desk_has_nothing(self):
        self.assertEqual((Desk().stores(), Desk().patches()), ([], []))

    def test_stores_in_the_order_of_beginning(self):
        desk = Desk()
        for name in ("mid", "zed", "alf", "0", "b10", "b9"):
            desk.begin(name)
        self.assertEqual(desk.stores(), ["mid", "zed", "alf", "0", "b10", "b9"])

    def test_patches_in_the_order_of_making(self):
        desk = small_desk()
        self.assertEqual(desk.patches(), ["p2", "p1", "p0", "p9", "p8"])

    def test_has_tells_the_eldest_first_whatever_came_first(self):
        desk = small_desk()
        self.assertEqual(desk.has("home"), ["p2", "p1", "p0", "p9", "p8"])
        self.assertEqual(desk.has("away"), ["p2", "p0", "p9", "p8"])
        desk.begin("late")
        desk.take("late", "home", "p9")
        desk.take("late", "home", "p2")
        self.assertEqual(desk.has("late"), ["p2", "p9"])

    def test_files_in_the_order_of_texts(self):
        desk = Desk()
        desk.begin("s")
        for number, file in enumerate(["m", "b10", "z", "a", "b9", "0", "b"]):
            desk.record("s", f"p{number}", file, ["x"])
        self.assertEqual(desk.files("s"), ["0", "a", "b", "b10", "b9", "m", "z"])

    def test_files_have_a_line_that_stands(self):
        desk = Desk()
        for store in ("s", "t"):
            desk.begin(store)
        desk.record("s", "p0", "emptied", ["x"])
        desk.record("s", "p1", "emptied", [])
        desk.record("s", "p2", "cut", ["x", "y"])
        desk.cut("s", "p3", "cut", [0, 1])
        desk.record("s", "p4", "undone", ["x"])
        desk.back("s", "p5", "p4")
        desk.record("s", "p6", "dropped", ["x"])
        desk.drop("s", "p6")
        desk.record("s", "p7", "half", ["x", "y"])
        desk.cut("s", "p8", "half", [0])
        desk.record("t", "p9", "elsewhere", ["x"])
        self.assertEqual(desk.files("s"), ["half"])
        self.assertEqual(desk.files("t"), ["elsewhere"])
        desk.back("s", "q", "p5")
        self.assertEqual(desk.files("s"), ["half", "undone"])

    def test_a_file_without_lines_is_empty_and_settled(self):
        desk = small_desk()
        for file in ("never", "list"):
            self.assertEqual(desk.row("home", file), [])
            self.assertEqual(desk.quarrels("home", file), [])
            self.assertEqual(desk.stay("home", file), [])


class Kinds(unittest.TestCase):
    def hold_names(self, names):
        self.assertIs(type(names), list)
        self.assertEqual({type(name) for name in names} - {str}, set())

    def hold_line_name(self, name):
        self.assertIs(type(name), tuple)
        self.assertEqual([type(part) for part in name], [str, int])

    def test_lists_of_names(self):
        desk = small_desk()
        for names in (desk.stores(), desk.patches(), desk.has("home"), desk.files("home"), desk.leans("p0")):
            self.hold_names(names)
            self.assertNotEqual(names, [])

    def test_rows_quarrels_and_stay(self):
        desk = small_desk()
        row, quarrels, stay = desk.row("home", "song"), desk.quarrels("home", "song"), desk.stay("home", "song")
        self.assertEqual((type(row), type(quarrels), type(stay)), (list, list, list))
        for line in row:
            self.assertIs(type(line), tuple)
            self.assertEqual([type(part) for part in line], [str, int, str])
        for pair in quarrels:
            self.assertIs(type(pair), tuple)
            self.assertEqual([type(place) for place in pair], [int, int])
        self.assertEqual([type(place) for place in stay], [int] * len(stay))
        self.assertTrue(row and quarrels and stay)

    def test_told(self):
        desk = small_desk()
        for name in ("p2", "p1", "p0", "p8"):
            told = desk.told(name)
            self.assertIs(type(told), tuple)
            self.assertEqual((len(told), type(told[1]), type(told[2])), (4, list, list))
            for put in told[1]:
                self.assertIs(type(put), tuple)
                self.assertEqual((len(put), type(put[0])), (3, str))
                for line in put[1:]:
                    if line is not None:
                        self.hold_line_name(line)
            for line in told[2]:
                self.hold_line_name(line)

    def test_calls_that_give_back_none(self):
        desk = Desk()
        self.assertIsNone(desk.begin("s"))
        self.assertIsNone(desk.record("s", "p", "f", ["x", "y"]))
        self.assertIsNone(desk.cut("s", "q", "f", [0]))
        self.assertIsNone(desk.back("s", "r", "q"))
        self.assertIsNone(desk.drop("s", "r"))

    def test_arguments_bear_their_names(self):
        desk = Desk()
        desk.begin(store="s")
        desk.begin(store="t")
        desk.record(store="s", patch="p", file="f", texts=["x", "y"])
        desk.cut(store="s", patch="q", file="f", places=[1])
        desk.back(store="s", patch="r", other="q")
        self.assertEqual(desk.take(store="t", source="s", patch="r"), ["p", "q", "r"])
        desk.drop(store="t", patch="r")
        self.assertEqual((desk.has(store="t"), desk.files(store="t")), (["p", "q"], ["f"]))
        self.assertEqual((desk.leans(patch="q"), desk.told(patch="q")), (["p"], ("f", [], [("p", 1)], None)))
        self.assertEqual(desk.row(store="t", file="f"), [("p", 0, "x")])
        self.assertEqual((desk.quarrels(store="t", file="f"), desk.stay(store="t", file="f")), ([], [0]))


class ListsHandedInAndGivenBack(unittest.TestCase):
    def test_lists_given_back_may_be_changed(self):
        desk = small_desk()
        before = snapshot(desk)
        asked = [
            desk.stores, desk.patches, lambda: desk.has("home"), lambda: desk.files("home"), lambda: desk.leans("p1"),
            lambda: desk.row("home", "song"), lambda: desk.quarrels("home", "song"), lambda: desk.stay("home", "song"),
            lambda: desk.told("p1")[1], lambda: desk.told("p0")[2], lambda: desk.told("p8")[1],
            lambda: desk.told("p8")[2], lambda: desk.row("home", "never"), lambda: desk.take("home", "away", "p0"),
        ]
        for number, ask in enumerate(asked):
            for change in (lambda found: found.append("x"), list.clear, list.reverse, lambda found: found.insert(0, ())):
                change(ask())
                with self.subTest(number=number):
                    self.assertEqual(snapshot(desk), before)

    def test_the_list_that_take_gives_back(self):
        desk = small_desk()
        desk.begin("late")
        came = desk.take("late", "home", "p0")
        self.assertEqual(came, ["p2", "p0"])
        came.clear()
        self.assertEqual(desk.has("late"), ["p2", "p0"])

    def test_texts_handed_in_are_not_changed_and_may_be_changed_later(self):
        desk = Desk()
        desk.begin("s")
        texts = ["la", "lo", "la"]
        desk.record("s", "p", "f", texts)
        self.assertEqual(texts, ["la", "lo", "la"])
        texts[0] = "changed"
        texts.append("more")
        self.assertEqual(desk.row("s", "f"), [("p", 0, "la"), ("p", 1, "lo"), ("p", 2, "la")])
        self.assertEqual([put[0] for put in desk.told("p")[1]], ["la", "lo", "la"])
        texts.clear()
        desk.record("s", "q", "f", texts)
        self.assertEqual((texts, desk.row("s", "f")), ([], []))

    def test_places_handed_in_are_not_changed_and_may_be_changed_later(self):
        desk = Desk()
        desk.begin("s")
        desk.record("s", "p", "f", ["a", "b", "c"])
        places = [0, 2]
        desk.cut("s", "q", "f", places)
        self.assertEqual(places, [0, 2])
        places[0] = 1
        places.append(7)
        self.assertEqual(desk.told("q"), ("f", [], [("p", 0), ("p", 2)], None))
        self.assertEqual(desk.row("s", "f"), [("p", 1, "b")])


if __name__ == "__main__":
    unittest.main()
