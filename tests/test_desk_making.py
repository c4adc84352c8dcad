"""What record, cut and back make, and which lines then stand in which order."""

import unittest

from patchkin.desk import Desk
from reading import Draw, Reading, record_by_reading, texts_of


def desk_with(*stores):
    desk = Desk()
    for store in stores:
        desk.begin(store)
    return desk


class Records(unittest.TestCase):
    def test_a_first_record(self):
        desk = desk_with("s")
        desk.record("s", "p", "f", ["a", "b", "c"])
        self.assertEqual(desk.row("s", "f"), [("p", 0, "a"), ("p", 1, "b"), ("p", 2, "c")])
        puts = [("a", None, None), ("b", ("p", 0), None), ("c", ("p", 1), None)]
        self.assertEqual(desk.told("p"), ("f", puts, [], None))
        self.assertEqual((desk.quarrels("s", "f"), desk.stay("s", "f"), desk.leans("p")), ([], [0, 1, 2], []))

    def test_a_first_record_of_sixty_texts(self):
        desk = desk_with("s")
        texts = [f"line {number // 2}" for number in range(60)]
        desk.record("s", "p", "f", texts)
        self.assertEqual(desk.row("s", "f"), [("p", number, texts[number]) for number in range(60)])
        self.assertEqual(desk.told("p")[1][59], ("line 29", ("p", 58), None))
        self.assertEqual((desk.quarrels("s", "f"), desk.stay("s", "f")), ([], list(range(60))))

    def test_texts_put_at_the_front_the_middle_and_the_end(self):
        desk = desk_with("s")
        desk.record("s", "p", "f", ["a", "b"])
        desk.record("s", "q", "f", ["1", "2", "a", "3", "4", "b", "5", "6"])
        self.assertEqual(desk.told("q"), ("f", [
            ("1", None, ("p", 0)), ("2", ("q", 0), ("p", 0)), ("3", ("p", 0), ("p", 1)),
            ("4", ("q", 2), ("p", 1)), ("5", ("p", 1), None), ("6", ("q", 4), None),
        ], [], None))
        self.assertEqual(desk.row("s", "f"), [
            ("q", 0, "1"), ("q", 1, "2"), ("p", 0, "a"), ("q", 2, "3"), ("q", 3, "4"), ("p", 1, "b"),
            ("q", 4, "5"), ("q", 5, "6"),
        ])

    def test_texts_exchanged_and_taken_out(self):
        desk = desk_with("s")
        desk.record("s", "p", "f", ["a", "b", "c", "d"])
        desk.record("s", "q", "f", ["a", "x", "d"])
        self.assertEqual(desk.told("q"), ("f", [("x", ("p", 0), ("p", 3))], [("p", 1), ("p", 2)], None))
        desk.record("s", "r", "f", ["d"])
        self.assertEqual(desk.told("r"), ("f", [], [("p", 0), ("q", 0)], None))
        desk.record("s", "t", "f", [])
        self.assertEqual(desk.told("t"), ("f", [], [("p", 3)], None))
        self.assertEqual((desk.row("s", "f"), desk.files("s")), ([], []))
        desk.record("s", "u", "f", ["d"])
        self.assertEqual(desk.told("u"), ("f", [("d", None, None)], [], None))

    def test_cut_lines_are_told_in_the_order_of_the_row(self):
        desk = desk_with("s")
        desk.record("s", "p", "f", ["a", "b"])
        desk.record("s", "q", "f", ["0", "a", "1", "b"])
        desk.record("s", "r", "f", [])
        self.assertEqual(desk.told("r")[2], [("q", 0), ("p", 0), ("q", 1), ("p", 1)])

    def test_which_of_like_texts_are_kept(self):
        desk = desk_with("s")
        desk.record("s", "p", "f", ["a", "a", "b"])
        desk.record("s", "q", "f", ["b", "a"])
        self.assertEqual(desk.told("q"), ("f", [("b", None, ("p", 0))], [("p", 1), ("p", 2)], None))
        desk.record("s", "r", "f", ["b", "a", "a", "b"])
        self.assertEqual(desk.told("r"), ("f", [("a", ("p", 0), None), ("b", ("r", 0), None)], [], None))
        self.assertEqual(desk.row("s", "f"), [("q", 0, "b"), ("p", 0, "a"), ("r", 0, "a"), ("r", 1, "b")])

    def test_empty_and_long_texts(self):
        desk = desk_with("s")
        texts = ["", " ", "~" * 80, "", "!"]
        desk.record("s", "p", "f", texts)
        self.assertEqual(texts_of(desk, "s", "f"), texts)
        desk.record("s", "q", "f", [" ", ""])
        self.assertEqual(desk.row("s", "f"), [("p", 1, " "), ("p", 3, "")])

    def test_numbers_go_by_size_and_not_as_texts(self):
        desk = desk_with("s", "t")
        desk.record("s", "p", "f", [str(number) for number in range(12)])
        desk.take("t", "s", "p")
        self.assertEqual([line[1] for line in desk.row("t", "f")], list(range(12)))

    def test_a_series_of_records_with_many_texts_alike(self):
        for seed in range(20):
            draw, desk = Draw(seed), desk_with("s")
            for number in range(15):
                self.record_and_hold(desk, f"p{number}", draw)

    def record_and_hold(self, desk, patch, draw):
        before = desk.row("s", "f")
        texts = draw.changed_texts([line[2] for line in before], longest=20)
        if texts == [line[2] for line in before]:
            return
        desk.record("s", patch, "f", texts)
        puts, cuts = record_by_reading(before, patch, texts)
        self.assertEqual(desk.told(patch), ("f", puts, cuts, None))
        row = desk.row("s", "f")
        self.assertEqual([line[2] for line in row], texts)
        self.assertEqual([line[1] for line in row if line[0] == patch], list(range(len(puts))))
        stayed = [line for line in before if line[:2] not in cuts]
        self.assertEqual([line for line in row if line[0] != patch], stayed)
        self.assertEqual((desk.quarrels("s", "f"), desk.stay("s", "f")), ([], list(range(len(texts)))))

    def test_earlier_patches_never_change(self):
        desk = desk_with("s")
        desk.record("s", "p", "f", ["a", "b"])
        first = desk.told("p")
        desk.record("s", "q", "f", ["x", "b", "y"])
        second = desk.told("q")
        desk.cut("s", "r", "f", [0, 1, 2])
        desk.back("s", "t", "p")
        desk.back("s", "u", "q")
        self.assertEqual((desk.told("p"), desk.told("q")), (first, second))


class Cuts(unittest.TestCase):
    def test_some_places(self):
        desk = desk_with("s")
        desk.record("s", "p", "f", ["a", "b", "c"])
        desk.record("s", "q", "f", ["a", "x", "b", "c"])
        desk.cut("s", "r", "f", [0, 1, 3])
        self.assertEqual(desk.told("r"), ("f", [], [("p", 0), ("q", 0), ("p", 2)], None))
        self.assertEqual(desk.row("s", "f"), [("p", 1, "b")])
        self.assertEqual(desk.leans("r"), ["p", "q"])

    def test_one_place_and_all_places(self):
        for places in ([0], [1], [2], [0, 1, 2]):
            desk = desk_with("s")
            desk.record("s", "p", "f", ["a", "b", "c"])
            desk.cut("s", "q", "f", places)
            self.assertEqual([line[1] for line in desk.row("s", "f")], [k for k in range(3) if k not in places])

    def test_a_file_that_is_not_settled(self):
        desk = desk_with("s", "t")
        desk.record("s", "p", "f", ["a"])
        desk.record("t", "q", "f", ["b"])
        desk.take("s", "t", "q")
        self.assertEqual(desk.quarrels("s", "f"), [(0, 1)])
        desk.cut("s", "r", "f", [0])
        self.assertEqual((desk.row("s", "f"), desk.quarrels("s", "f")), ([("q", 0, "b")], []))
        desk.record("s", "u", "f", ["a", "b"])
        self.assertEqual(desk.told("u"), ("f", [("a", None, ("q", 0))], [], None))

    def test_other_files_and_stores_keep_their_lines(self):
        desk = desk_with("s", "t")
        desk.record("s", "p", "f", ["a", "b"])
        desk.record("s", "q", "g", ["a", "b"])
        desk.take("t", "s", "p")
        desk.cut("s", "r", "f", [1])
        self.assertEqual(texts_of(desk, "s", "g"), ["a", "b"])
        self.assertEqual(texts_of(desk, "t", "f"), ["a", "b"])
        self.assertEqual((desk.has("s"), desk.has("t")), (["p", "q", "r"], ["p"]))


class Backs(unittest.TestCase):
    def test_a_patch_taken_back_and_its_back_taken_back(self):
        desk = desk_with("s")
        desk.record("s", "p", "f", ["a", "b"])
        desk.record("s", "q", "f", ["a", "x"])
        for number in range(6):
            other = f"b{number - 1}" if number else "q"
            desk.back("s", f"b{number}", other)
            self.assertEqual(desk.told(f"b{number}"), (None, [], [], other))
            self.assertEqual(texts_of(desk, "s", "f"), ["a", "b"] if number % 2 == 0 else ["a", "x"])
        self.assertEqual(desk.leans("b2"), ["p", "q", "b0", "b1"])

    def test_several_backs_of_one_patch(self):
        desk = desk_with("s")
        desk.record("s", "p", "f", ["a"])
        desk.back("s", "b", "p")
        desk.back("s", "c", "p")
        self.assertEqual(desk.row("s", "f"), [])
        desk.back("s", "d", "b")
        self.assertEqual(desk.row("s", "f"), [])
        desk.back("s", "e", "c")
        self.assertEqual(desk.row("s", "f"), [("p", 0, "a")])
        desk.back("s", "g", "d")
        self.assertEqual(desk.row("s", "f"), [])

    def test_a_back_dropped(self):
        desk = desk_with("s", "t")
        desk.record("s", "p", "f", ["a"])
        desk.back("s", "b", "p")
        desk.take("t", "s", "b")
        desk.drop("s", "b")
        self.assertEqual((desk.row("s", "f"), desk.row("t", "f")), ([("p", 0, "a")], []))

    def test_a_back_of_a_back_dropped(self):
        desk = desk_with("s")
        desk.record("s", "p", "f", ["a"])
        desk.back("s", "b", "p")
        desk.back("s", "c", "b")
        self.assertEqual(desk.files("s"), ["f"])
        desk.drop("s", "c")
        self.assertEqual(desk.files("s"), [])

    def test_a_line_cut_by_two_patches_of_which_one_is_taken_back(self):
        desk = desk_with("s", "t")
        desk.record("s", "p", "f", ["a", "b"])
        desk.take("t", "s", "p")
        desk.cut("s", "q", "f", [0])
        desk.record("t", "r", "f", ["b"])
        desk.take("s", "t", "r")
        self.assertEqual(texts_of(desk, "s", "f"), ["b"])
        desk.back("s", "u", "q")
        self.assertEqual(texts_of(desk, "s", "f"), ["b"])
        desk.back("s", "v", "r")
        self.assertEqual(texts_of(desk, "s", "f"), ["a", "b"])
        self.assertEqual(texts_of(desk, "t", "f"), ["b"])

    def test_lines_of_a_patch_taken_back_are_gone_where_another_one_cuts_them_too(self):
        desk = desk_with("s")
        desk.record("s", "p", "f", ["a", "b"])
        desk.cut("s", "q", "f", [0])
        desk.back("s", "b", "p")
        self.assertEqual(desk.row("s", "f"), [])
        desk.back("s", "c", "b")
        self.assertEqual(texts_of(desk, "s", "f"), ["b"])

    def test_a_patch_is_taken_back_in_one_store_alone(self):
        desk = desk_with("s", "t")
        desk.record("s", "p", "f", ["a"])
        desk.take("t", "s", "p")
        desk.back("t", "b", "p")
        self.assertEqual((texts_of(desk, "s", "f"), texts_of(desk, "t", "f")), (["a"], []))
        self.assertEqual((desk.has("s"), desk.has("t")), (["p"], ["p", "b"]))

    def test_a_patch_on_which_others_lean_is_taken_back(self):
        desk = desk_with("s")
        desk.record("s", "p", "f", ["a", "b"])
        desk.record("s", "q", "f", ["a", "x", "b"])
        desk.back("s", "b", "p")
        self.assertEqual(desk.row("s", "f"), [("q", 0, "x")])
        desk.record("s", "r", "f", ["x", "y"])
        desk.back("s", "c", "b")
        self.assertEqual(desk.row("s", "f"), [("p", 0, "a"), ("q", 0, "x"), ("p", 1, "b"), ("r", 0, "y")])
        self.assertEqual(desk.quarrels("s", "f"), [(2, 3)])
        self.assertEqual(desk.stay("s", "f"), [0, 1, 2])


class OrderOfLines(unittest.TestCase):
    def parted_desk(self):
        """Three stores that put lines at the same place of one file; the first took all."""
        desk = desk_with("s", "t", "u")
        desk.record("s", "p", "f", ["a", "z"])
        for store in ("t", "u"):
            desk.take(store, "s", "p")
        desk.record("u", "r", "f", ["a", "u0", "z"])
        desk.record("s", "b", "f", ["a", "s0", "s1", "z"])
        desk.record("t", "a", "f", ["a", "t0", "t1", "t2", "z"])
        desk.take("s", "u", "r")
        desk.take("s", "t", "a")
        return desk

    def test_lines_go_by_the_age_of_their_patches(self):
        desk = self.parted_desk()
        self.assertEqual(desk.row("s", "f"), [
            ("p", 0, "a"), ("r", 0, "u0"), ("b", 0, "s0"), ("b", 1, "s1"),
            ("a", 0, "t0"), ("a", 1, "t1"), ("a", 2, "t2"), ("p", 1, "z"),
        ])

    def test_quarrels_in_dictionary_order(self):
        desk = self.parted_desk()
        self.assertEqual(desk.quarrels("s", "f"), [
            (1, 2), (1, 3), (1, 4), (1, 5), (1, 6), (2, 4), (2, 5), (2, 6), (3, 4), (3, 5), (3, 6),
        ])

    def test_as_many_lines_stay_as_can(self):
        desk = self.parted_desk()
        self.assertEqual(desk.stay("s", "f"), [0, 4, 5, 6, 7])
        desk.cut("s", "c", "f", [5])
        self.assertEqual(desk.stay("s", "f"), [0, 2, 3, 6])
        desk.cut("s", "d", "f", [2, 5])
        self.assertEqual(texts_of(desk, "s", "f"), ["a", "u0", "s1", "t0", "z"])
        self.assertEqual(desk.stay("s", "f"), [0, 1, 4])

    def test_lines_that_do_not_stand_still_order_others(self):
        desk = desk_with("s")
        desk.record("s", "p", "f", ["b"])
        desk.record("s", "q", "f", ["a", "b"])
        desk.record("s", "r", "f", ["0", "a", "b"])
        desk.cut("s", "c", "f", [1])
        self.assertEqual(desk.row("s", "f"), [("r", 0, "0"), ("p", 0, "b")])
        self.assertEqual(desk.quarrels("s", "f"), [])
        desk.back("s", "d", "q")
        self.assertEqual((texts_of(desk, "s", "f"), desk.quarrels("s", "f")), (["0", "b"], []))

    def test_order_through_lines_that_are_cut_and_through_patches_taken_back(self):
        desk = desk_with("s")
        desk.record("s", "p", "f", ["m"])
        desk.record("s", "q", "f", ["k", "m"])
        desk.record("s", "r", "f", ["k", "m", "y"])
        desk.back("s", "b", "p")
        self.assertEqual(desk.row("s", "f"), [("q", 0, "k"), ("r", 0, "y")])
        self.assertEqual((desk.quarrels("s", "f"), desk.stay("s", "f")), ([], [0, 1]))

    def test_a_younger_line_ahead_of_an_elder_one_that_is_free(self):
        desk = desk_with("s", "t")
        desk.record("s", "p", "f", ["b"])
        desk.record("t", "q", "f", ["c"])
        desk.record("s", "r", "f", ["a", "b"])
        desk.take("s", "t", "q")
        self.assertEqual(desk.row("s", "f"), [("q", 0, "c"), ("r", 0, "a"), ("p", 0, "b")])
        self.assertEqual((desk.quarrels("s", "f"), desk.stay("s", "f")), ([(0, 1), (0, 2)], [1, 2]))

    def test_a_line_cut_and_brought_back_quarrels_with_what_took_its_place(self):
        desk = desk_with("s")
        desk.record("s", "p", "f", ["a", "b", "c"])
        desk.record("s", "q", "f", ["a", "x", "c"])
        desk.back("s", "r", "q")
        desk.back("s", "t", "r")
        desk.drop("s", "t")
        desk.drop("s", "r")
        desk.cut("s", "u", "f", [1])
        desk.record("s", "v", "f", ["a", "y", "c"])
        desk.back("s", "w", "q")
        self.assertEqual(texts_of(desk, "s", "f"), ["a", "b", "y", "c"])
        self.assertEqual(desk.quarrels("s", "f"), [(1, 2)])
        self.assertEqual(desk.stay("s", "f"), [0, 1, 3])

    def test_all_of_it_as_a_plain_reading_tells_it(self):
        desk = self.parted_desk()
        for store in desk.stores():
            told = desk.row(store, "f"), desk.quarrels(store, "f"), desk.stay(store, "f")
            self.assertEqual(told, Reading(desk, store).file("f"))


if __name__ == "__main__":
    unittest.main()
