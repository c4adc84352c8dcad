"""Every refusal of every call, alone and where several are due at once."""

import unittest

from patchkin.desk import Desk
from patchkin.errors import BadName, Leant, NameTaken, NoLine, NoPatch, NoStore, Same, Unsettled
from reading import snapshot

SONG = ["a", "x", "y", "b"]
FILES = ("song", "list", "void", "new")

# Of the store "here": "song" has four lines and isn't settled, "list" has one line, "void"
# has none that stands. "dropped" is a patch that no store has; "theirs" only "there" has.
REFUSED = {
    "begin": [
        (BadName, ""), (BadName, "Here"), (BadName, "here "), (BadName, "here\n"), (NameTaken, "here"), (NameTaken, "bare"),
    ],
    "has": [(NoStore, "none"), (NoStore, ""), (NoStore, "HERE"), (NoStore, "base"), (NoStore, "song")],
    "files": [(NoStore, "none"), (NoStore, ""), (NoStore, "song")],
    "row": [(NoStore, "none", "song"), (NoStore, "none", "void"), (NoStore, "", ""), (NoStore, "HERE", "SONG")],
    "quarrels": [(NoStore, "none", "song"), (NoStore, "none", "void"), (NoStore, "", ""), (NoStore, "HERE", "SONG")],
    "stay": [(NoStore, "none", "song"), (NoStore, "none", "void"), (NoStore, "", ""), (NoStore, "HERE", "SONG")],
    "leans": [(NoPatch, "none"), (NoPatch, ""), (NoPatch, "here"), (NoPatch, "song"), (NoPatch, "Base")],
    "told": [(NoPatch, "none"), (NoPatch, ""), (NoPatch, "here"), (NoPatch, "song"), (NoPatch, "Base")],
    "record": [
        (NoStore, "none", "free", "new", ["k"]),
        (NoStore, "none", "Bad", "new", ["k"]),
        (NoStore, "none", "free", "Bad", ["k"]),
        (NoStore, "none", "base", "new", ["k"]),
        (NoStore, "none", "free", "new", []),
        (NoStore, "", "", "", []),
        (BadName, "here", "Bad", "new", ["k"]),
        (BadName, "here", "free", "Bad", ["k"]),
        (BadName, "here", "", "", ["k"]),
        (BadName, "here", "base", "Bad", ["k"]),
        (BadName, "here", "Bad", "song", ["k"]),
        (BadName, "here", "Bad", "song", SONG),
        (BadName, "here", "Bad", "list", ["one"]),
        (BadName, "here", "free", "Bad", []),
        (NameTaken, "here", "base", "new", ["k"]),
        (NameTaken, "here", "theirs", "new", ["k"]),
        (NameTaken, "here", "dropped", "new", ["k"]),
        (NameTaken, "bare", "undo", "new", ["k"]),
        (NameTaken, "here", "base", "song", ["k"]),
        (NameTaken, "here", "base", "list", ["one"]),
        (NameTaken, "here", "base", "song", SONG),
        (NameTaken, "here", "base", "new", []),
        (Unsettled, "here", "free", "song", ["k"]),
        (Unsettled, "here", "free", "song", []),
        (Unsettled, "here", "free", "song", SONG),
        (Same, "here", "free", "list", ["one"]),
        (Same, "here", "free", "void", []),
        (Same, "here", "free", "new", []),
        (Same, "bare", "free", "song", []),
    ],
    "cut": [
        (NoStore, "none", "free", "song", [0]),
        (NoStore, "none", "Bad", "song", [0]),
        (NoStore, "none", "free", "Bad", [0]),
        (NoStore, "none", "base", "song", [9]),
        (NoStore, "none", "free", "song", []),
        (BadName, "here", "Bad", "song", [0]),
        (BadName, "here", "free", "Bad", [0]),
        (BadName, "here", "base", "Bad", [0]),
        (BadName, "here", "Bad", "song", [9]),
        (BadName, "here", "Bad", "song", []),
        (BadName, "here", "free", "Bad", []),
        (NameTaken, "here", "base", "song", [0]),
        (NameTaken, "here", "theirs", "song", [0]),
        (NameTaken, "here", "dropped", "song", [0]),
        (NameTaken, "here", "base", "song", [9]),
        (NameTaken, "here", "base", "song", []),
        (NoLine, "here", "free", "song", [4]),
        (NoLine, "here", "free", "song", [-1]),
        (NoLine, "here", "free", "song", [-4, 0]),
        (NoLine, "here", "free", "song", [0, 4]),
        (NoLine, "here", "free", "song", [0, 1, 2, 3, 4]),
        (NoLine, "here", "free", "song", [0, 0]),
        (NoLine, "here", "free", "song", [0, 2, 2]),
        (NoLine, "here", "free", "song", [1, 0]),
        (NoLine, "here", "free", "song", [0, 2, 1]),
        (NoLine, "here", "free", "song", [0, 3, -1]),
        (NoLine, "here", "free", "void", [0]),
        (NoLine, "here", "free", "new", [0]),
        (NoLine, "here", "free", "list", [1]),
        (NoLine, "bare", "free", "song", [0]),
        (Same, "here", "free", "song", []),
        (Same, "here", "free", "void", []),
        (Same, "here", "free", "new", []),
    ],
    "back": [
        (NoStore, "none", "free", "base"),
        (NoStore, "none", "Bad", "base"),
        (NoStore, "none", "base", "base"),
        (NoStore, "none", "free", "none"),
        (BadName, "here", "Bad", "base"),
        (BadName, "here", "", "none"),
        (BadName, "here", "Bad", "theirs"),
        (NameTaken, "here", "base", "base"),
        (NameTaken, "here", "dropped", "base"),
        (NameTaken, "here", "theirs", "base"),
        (NameTaken, "here", "base", "none"),
        (NameTaken, "here", "theirs", "theirs"),
        (NoPatch, "here", "free", "none"),
        (NoPatch, "here", "free", "free"),
        (NoPatch, "here", "free", "theirs"),
        (NoPatch, "here", "free", "dropped"),
        (NoPatch, "bare", "free", "base"),
        (NoPatch, "here", "free", ""),
        (NoPatch, "here", "free", "Bad"),
        (NoPatch, "here", "free", "song"),
    ],
    "take": [
        (NoStore, "none", "here", "base"),
        (NoStore, "here", "none", "base"),
        (NoStore, "none", "none", "base"),
        (NoStore, "none", "here", "none"),
        (NoStore, "here", "none", "none"),
        (NoStore, "none", "bare", "base"),
        (NoPatch, "bare", "here", "none"),
        (NoPatch, "there", "here", "theirs"),
        (NoPatch, "bare", "here", "theirs"),
        (NoPatch, "here", "bare", "base"),
        (NoPatch, "bare", "bare", "base"),
        (NoPatch, "bare", "here", "dropped"),
        (NoPatch, "bare", "here", ""),
    ],
    "drop": [
        (NoStore, "none", "base"),
        (NoStore, "none", "none"),
        (NoPatch, "here", "none"),
        (NoPatch, "here", "theirs"),
        (NoPatch, "here", "dropped"),
        (NoPatch, "bare", "base"),
        (NoPatch, "here", ""),
        (Leant, "here", "base"),
        (Leant, "here", "empty"),
        (Leant, "there", "base"),
    ],
}


def prepared():
    desk = Desk()
    for store in ("here", "there", "bare"):
        desk.begin(store)
    desk.record("here", "base", "song", ["a", "b"])
    desk.take("there", "here", "base")
    desk.record("here", "ours", "song", ["a", "x", "b"])
    desk.record("there", "other", "song", ["a", "y", "b"])
    desk.take("here", "there", "other")
    desk.record("here", "single", "list", ["one"])
    desk.record("here", "empty", "void", ["gone"])
    desk.back("here", "undo", "empty")
    desk.record("here", "dropped", "list", ["one", "two"])
    desk.drop("here", "dropped")
    desk.record("there", "theirs", "list", ["three"])
    return desk


class Refusals(unittest.TestCase):
    def test_the_prepared_desk(self):
        desk = prepared()
        self.assertEqual([line[2] for line in desk.row("here", "song")], SONG)
        self.assertEqual(desk.quarrels("here", "song"), [(1, 2)])
        self.assertEqual(desk.files("here"), ["list", "song"])

    def test_each_is_the_first_that_is_due_and_changes_nothing(self):
        desk = prepared()
        before = snapshot(desk, FILES)
        for call, rows in REFUSED.items():
            for error, *handed in rows:
                with self.subTest(call=call, handed=handed):
                    copies = [list(thing) if isinstance(thing, list) else thing for thing in handed]
                    with self.assertRaises(error) as caught:
                        getattr(desk, call)(*copies)
                    self.assertIs(type(caught.exception), error)
                    self.assertEqual(copies, handed)
                    self.assertEqual(snapshot(desk, FILES), before)

    def test_a_name_refused_for_another_reason_is_still_free(self):
        for call in ("record", "cut", "back"):
            for error, store, patch, *handed in REFUSED[call]:
                if patch != "free":
                    continue
                with self.subTest(call=call, store=store, handed=handed):
                    desk = prepared()
                    with self.assertRaises(error):
                        getattr(desk, call)(store, patch, *handed)
                    desk.record("bare", "free", "new", ["k"])
                    self.assertEqual(desk.row("bare", "new"), [("free", 0, "k")])

    def test_a_store_refused_is_still_free(self):
        desk = prepared()
        for call in (desk.has, desk.files):
            with self.assertRaises(NoStore):
                call("none")
        desk.begin("none")
        self.assertEqual(desk.has("none"), [])

    def test_what_is_just_within_is_done(self):
        desk = prepared()
        desk.cut("here", "c0", "song", [0, 3])
        self.assertEqual([line[2] for line in desk.row("here", "song")], ["x", "y"])
        desk.cut("here", "c1", "song", [1])
        desk.record("here", "c2", "song", ["x", "x"])
        desk.record("here", "c3", "list", ["one", "one"])
        desk.record("here", "c4", "list", ["one"])
        self.assertEqual(desk.row("here", "list"), [("single", 0, "one")])
        desk.drop("here", "undo")
        desk.drop("here", "empty")


if __name__ == "__main__":
    unittest.main()
