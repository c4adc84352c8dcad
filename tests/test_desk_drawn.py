"""Desks made by a fixed series of drawn deeds: held against a plain reading of the
document, and against what must hold over every desk."""

import collections
import unittest

from patchkin.desk import Desk
from patchkin.errors import Leant
from reading import (
    FILES, STORES, Draw, DrawnDesk, Reading, leans_by_reading, rows_and_quarrels, snapshot, store_snapshot, texts_of,
)


def file_told(desk, store, file):
    return desk.row(store, file), desk.quarrels(store, file), desk.stay(store, file)


def files_told(desk, store):
    return [file_told(desk, store, file) for file in FILES]


def files_read(desk, store):
    reading = Reading(desk, store)
    return [reading.file(file) for file in FILES]


class AgainstPlainReading(unittest.TestCase):
    def hold(self, drawn):
        desk = drawn.desk
        for store in STORES:
            read = files_read(desk, store)
            self.assertEqual(desk.has(store), [name for name in desk.patches() if name in drawn.has[store]])
            self.assertEqual(files_told(desk, store), read)
            self.assertEqual(desk.files(store), sorted(file for file, told in zip(FILES, read) if told[0]))

    def test_all_that_is_told_behind_each_deed(self):
        seen = collections.Counter()
        for seed in range(300):
            drawn = DrawnDesk(seed)
            for _ in range(16):
                deed, right = drawn.deed()
                seen[deed] += 1
                if not right:
                    self.fail(f"seed {seed}: {deed} did not do what the document asks")
                with self.subTest(seed=seed, deed=deed):
                    self.hold(drawn)
        for deed in ("record", "cut", "back", "back of a back", "take", "take nothing", "drop", "leant", "unsettled"):
            self.assertGreater(seen[deed], 10, deed)

    def test_longer_series(self):
        quarrels = stays = younger_ahead = 0
        for seed in range(1000, 1060):
            drawn = DrawnDesk(seed).run(36)
            with self.subTest(seed=seed):
                self.hold(drawn)
                for name in drawn.desk.patches():
                    self.assertEqual(drawn.desk.leans(name), leans_by_reading(drawn.desk, name))
            for row, parted, stay in [told for store in STORES for told in files_told(drawn.desk, store)]:
                ages = [drawn.desk.patches().index(line[0]) for line in row]
                quarrels += bool(parted)
                stays += stay != [] and stay != list(range(len(stay)))
                younger_ahead += ages != sorted(ages)
        self.assertGreater(min(quarrels, stays, younger_ahead), 20)


class OverEveryDesk(unittest.TestCase):
    def over(self, seeds, check, deeds=16):
        """What the checks count shows that the drawn desks give them enough to do."""
        seen = collections.Counter()
        for seed in seeds:
            with self.subTest(seed=seed):
                check(DrawnDesk(seed).run(deeds), Draw(seed + 5000), seen)
        return seen

    def test_two_orders_of_taking_tell_the_same(self):
        self.assertGreater(self.over(range(200, 280), self.take_in_two_orders)["unsettled"], 20)

    def take_in_two_orders(self, drawn, draw, seen):
        desk = drawn.desk
        sources = [(store, name) for store in STORES for name in desk.has(store)]
        for store in ("one", "two"):
            desk.begin(store)
            for source, name in draw.shuffled(sources):
                desk.take(store, source, name)
        self.assertEqual(desk.has("one"), desk.has("two"))
        self.assertEqual(set(desk.has("one")), set().union(*drawn.has.values()))
        self.assertEqual(rows_and_quarrels(desk, "one"), rows_and_quarrels(desk, "two"))
        seen["unsettled"] += any(desk.quarrels("one", file) for file in FILES)

    def test_a_record_changes_one_file_of_one_store(self):
        self.assertGreater(self.over(range(300, 380), self.record_each_settled_file)["recorded"], 200)

    def record_each_settled_file(self, drawn, draw, seen):
        desk = drawn.desk
        for store in STORES:
            for file, other in (FILES, FILES[::-1]):
                texts = draw.changed_texts(texts_of(desk, store, file), longest=12)
                if desk.quarrels(store, file) or texts == texts_of(desk, store, file):
                    continue
                apart = [store_snapshot(desk, name) for name in STORES if name != store]
                beside = file_told(desk, store, other)
                desk.record(store, f"new{len(desk.patches())}", file, texts)
                self.assertEqual(texts_of(desk, store, file), texts)
                self.assertEqual(desk.quarrels(store, file), [])
                self.assertEqual(desk.stay(store, file), list(range(len(texts))))
                self.assertEqual([store_snapshot(desk, name) for name in STORES if name != store], apart)
                self.assertEqual(file_told(desk, store, other), beside)
                seen["recorded"] += 1

    def test_a_patch_and_its_back_leave_all_as_it_was(self):
        seen = self.over(range(400, 480), self.make_and_take_back)
        for deed in ("record", "cut", "back", "elsewhere"):
            self.assertGreater(seen[deed], 10, deed)

    def make_and_take_back(self, drawn, draw, seen):
        desk = drawn.desk
        for store in STORES:
            wanted = {name: rows_and_quarrels(desk, name) for name in STORES}
            made = len(desk.patches())
            deed = draw.one_of([drawn.record, drawn.cut, drawn.back])
            deed(store)
            if len(desk.patches()) == made:
                continue
            patch = desk.patches()[-1]
            back = "b" + patch
            desk.back(store, back, patch)
            seen[deed.__name__] += 1
            self.assertEqual({name: rows_and_quarrels(desk, name) for name in STORES}, wanted)
            for other in STORES:
                if other != store and set(desk.leans(patch)) <= set(desk.has(other)):
                    self.assertEqual(desk.take(other, store, back), [patch, back])
                    self.assertEqual(rows_and_quarrels(desk, other), wanted[other])
                    seen["elsewhere"] += 1

    def test_what_came_is_dropped_the_youngest_first(self):
        self.assertGreater(self.over(range(500, 560), self.take_and_drop_all)["refused"], 50)

    def take_and_drop_all(self, drawn, draw, seen):
        desk = drawn.desk
        store = max(STORES, key=lambda name: len(desk.has(name)))
        patch = max(desk.has(store), key=lambda name: len(desk.leans(name)))
        desk.begin("empty")
        came = desk.take("empty", store, patch)
        self.assertEqual(came, desk.leans(patch) + [patch])
        while came:
            for name in came:
                if any(name in desk.leans(other) for other in came):
                    before = snapshot(desk)
                    with self.assertRaises(Leant):
                        desk.drop("empty", name)
                    self.assertEqual(snapshot(desk), before)
                    seen["refused"] += 1
            desk.drop("empty", came.pop())
            self.assertEqual(desk.has("empty"), came)
        self.assertEqual(store_snapshot(desk, "empty"), ([], [], [([], [], [])] * 2))

    def test_what_stays_is_settled_when_the_rest_is_cut(self):
        self.assertGreater(self.over(range(600, 700), self.cut_all_that_does_not_stay, deeds=20)["unsettled"], 30)

    def cut_all_that_does_not_stay(self, drawn, draw, seen):
        desk = drawn.desk
        for store in STORES:
            for file in FILES:
                row, stay = desk.row(store, file), desk.stay(store, file)
                away = [place for place in range(len(row)) if place not in stay]
                if away:
                    desk.cut(store, f"new{len(desk.patches())}", file, away)
                    seen["unsettled"] += 1
                self.assertEqual(desk.row(store, file), [row[place] for place in stay])
                self.assertEqual(desk.quarrels(store, file), [])
                self.assertEqual(desk.stay(store, file), list(range(len(stay))))

    def test_the_same_deeds_make_the_same_desk(self):
        for seed in range(700, 710):
            self.assertEqual(snapshot(DrawnDesk(seed).run(16).desk), snapshot(DrawnDesk(seed).run(16).desk))

    def test_desks_share_nothing(self):
        DrawnDesk(1).run(16)
        desk = Desk()
        self.assertEqual((desk.stores(), desk.patches()), ([], []))


if __name__ == "__main__":
    unittest.main()
