"""Desks at their bounds, and somewhat beyond, are answered in a time that a user waits for."""

import time
import unittest

from patchkin.desk import Desk
from reading import Draw, texts_of

SECONDS = 10


def numbered(word, count):
    return [f"{word} {number}" for number in range(count)]


def hold_all(test, desk, store, file):
    """What a row, its quarrels and what may stay must be to one another."""
    row, quarrels, stay = desk.row(store, file), desk.quarrels(store, file), desk.stay(store, file)
    test.assertEqual(quarrels, sorted(set(quarrels)))
    test.assertTrue(all(0 <= first < second < len(row) for first, second in quarrels))
    test.assertEqual(stay, sorted(set(stay)))
    parted = set(quarrels)
    test.assertFalse([pair for pair in zip(stay, stay[1:]) if pair in parted])
    return row, quarrels, stay


class Bounds(unittest.TestCase):
    def setUp(self):
        self.begun = time.process_time()

    def tearDown(self):
        self.assertLess(time.process_time() - self.begun, SECONDS)

    def test_two_stores_that_changed_a_file_apart(self):
        desk = Desk()
        for store in ("here", "there"):
            desk.begin(store)
        desk.record("here", "base", "song", numbered("base", 60))
        desk.take("there", "here", "base")
        for turn in range(19):
            for store in ("here", "there"):
                texts = texts_of(desk, store, "song")
                place = turn * 2 if store == "here" else 52 - turn * 2
                texts[place:place + 8] = numbered(f"{store} {turn}", 8)
                desk.record(store, f"{store}{turn}", "song", texts[:60])
                self.assertEqual(texts_of(desk, store, "song"), texts[:60])
        self.assertEqual(len(desk.patches()), 39)
        for store, source in (("here", "there"), ("there", "here")):
            for name in desk.has(source):
                desk.take(store, source, name)
        self.assertEqual(desk.has("here"), desk.patches())
        told = hold_all(self, desk, "here", "song")
        self.assertEqual(told, hold_all(self, desk, "there", "song"))
        self.assertTrue(told[1])
        away = [place for place in range(len(told[0])) if place not in told[2]]
        desk.cut("here", "settled", "song", away)
        self.assertEqual(desk.row("here", "song"), [told[0][place] for place in told[2]])
        self.assertEqual(desk.quarrels("here", "song"), [])

    def test_many_lines_that_all_quarrel(self):
        desk = Desk()
        desk.begin("all")
        for number in range(7):
            desk.begin(f"s{number}")
            desk.record(f"s{number}", f"p{number}", "song", numbered(f"of {number}", 57 + (number == 6)))
            desk.take("all", f"s{number}", f"p{number}")
        row, quarrels, stay = hold_all(self, desk, "all", "song")
        self.assertEqual([line[:2] for line in row[:58]], [("p0", k) for k in range(57)] + [("p1", 0)])
        self.assertEqual((len(row), len(quarrels)), (400, 15 * 57 * 57 + 6 * 57 * 58))
        self.assertEqual(stay, list(range(342, 400)))

    def test_forty_patches_each_ahead_of_the_elder(self):
        desk = Desk()
        desk.begin("here")
        for number in range(40):
            texts = texts_of(desk, "here", "song")
            desk.record("here", f"p{number}", "song", numbered(f"turn {number}", 10) + texts[:50])
        self.assertEqual(desk.row("here", "song")[0], ("p39", 0, "turn 39 0"))
        self.assertEqual((desk.quarrels("here", "song"), desk.stay("here", "song")), ([], list(range(60))))
        for number in range(40):
            self.assertEqual(desk.leans(f"p{number}"), [f"p{elder}" for elder in range(number)])

    def test_a_long_chain_that_all_stands(self):
        desk = Desk()
        desk.begin("here")
        for number in range(10):
            desk.record("here", f"p{number}", "song", numbered(f"turn {number}", 40) + texts_of(desk, "here", "song"))
        row, quarrels, stay = hold_all(self, desk, "here", "song")
        self.assertEqual([line[:2] for line in row], [(f"p{9 - k // 40}", k % 40) for k in range(400)])
        self.assertEqual((quarrels, stay), ([], list(range(400))))

    def test_a_long_chain_of_backs(self):
        desk = Desk()
        for store in ("here", "there"):
            desk.begin(store)
        desk.record("here", "b0", "song", ["a"])
        for number in range(1, 40):
            desk.back("here", f"b{number}", f"b{number - 1}")
            self.assertEqual(desk.files("here"), ["song"] if number % 2 == 0 else [])
        self.assertEqual(desk.leans("b39"), [f"b{number}" for number in range(39)])
        self.assertEqual(desk.take("there", "here", "b39"), desk.patches())

    def test_many_backs_of_one_patch(self):
        desk = Desk()
        desk.begin("here")
        desk.record("here", "p", "song", ["a"])
        for number in range(19):
            desk.back("here", f"b{number}", "p")
        for number in range(19):
            self.assertEqual(desk.files("here"), [])
            desk.back("here", f"c{number}", f"b{number}")
        self.assertEqual(desk.files("here"), ["song"])

    def test_twelve_stores_of_a_drawn_desk(self):
        draw, desk = Draw(77), Desk()
        stores = [f"s{number}" for number in range(12)]
        for store in stores:
            desk.begin(store)
        desk.record("s0", "base", "song", numbered("base", 20))
        for store in stores[1:]:
            desk.take(store, "s0", "base")
        for number in range(39):
            store = draw.one_of(stores)
            texts = draw.changed_texts(texts_of(desk, store, "song"), longest=60) + ["end"]
            desk.record(store, f"p{number}", "song", texts)
        for store in stores:
            for source in stores:
                for name in desk.has(source):
                    desk.take(store, source, name)
        told = hold_all(self, desk, "s0", "song")
        for store in stores[1:]:
            self.assertEqual((desk.row(store, "song"), desk.has(store)), (told[0], desk.patches()))

    def test_somewhat_beyond_the_bounds(self):
        desk = Desk()
        for number in range(14):
            desk.begin(f"s{number}")
        texts = numbered("line", 75) + ["x" * 100, "100%"]
        desk.record("s0", "p0", "song", texts)
        for number in range(1, 50):
            desk.record("s0", f"p{number}", "song", numbered(f"turn {number}", 9) + texts[:66])
            self.assertEqual(len(desk.row("s0", "song")), 75)
        self.assertEqual(desk.take("s13", "s0", "p49"), desk.patches())
        self.assertEqual(desk.row("s13", "song"), desk.row("s0", "song"))


if __name__ == "__main__":
    unittest.main()
