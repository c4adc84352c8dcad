import itertools
import unittest

from patchkin.differ import kept


def by_plain_search(old, new):
    """Every list of pairs there is; the longest of them, and of these the first."""
    best = []
    for size in range(min(len(old), len(new)) + 1):
        found = []
        for firsts in itertools.combinations(range(len(old)), size):
            for seconds in itertools.combinations(range(len(new)), size):
                if [old[k] for k in firsts] == [new[k] for k in seconds]:
                    found.append(list(zip(firsts, seconds)))
        if found:
            best = min(found)
    return best


def by_comparing_answers(old, new):
    """The same for long lists: whole answers are held against one another, with
    every like text tried for each place."""
    table = {}
    for first in range(len(old), -1, -1):
        for start in range(len(new), -1, -1):
            if first == len(old):
                table[first, start] = (0, ())
                continue
            choices = [table[first + 1, start]]
            for second in range(start, len(new)):
                if old[first] == new[second]:
                    count, pairs = table[first + 1, second + 1]
                    choices.append((count - 1, ((first, second),) + pairs))
            table[first, start] = min(choices)
    return list(table[0, 0][1])


def all_lists(texts, longest):
    return [list(row) for size in range(longest + 1) for row in itertools.product(texts, repeat=size)]


def mixed(texts, size, step):
    """A list without a plain period, the same at each run."""
    state = step
    rows = []
    for _ in range(size):
        state = (state * 1103515245 + 12345) % 2147483648
        rows.append(texts[(state >> 16) % len(texts)])
    return rows


class SmallLists(unittest.TestCase):
    def test_empty_lists(self):
        self.assertEqual(kept([], []), [])
        self.assertEqual(kept([], ["a", "b"]), [])
        self.assertEqual(kept(["a", "b"], []), [])

    def test_like_lists(self):
        self.assertEqual(kept(["a"], ["a"]), [(0, 0)])
        self.assertEqual(kept(["a", "b", "c"], ["a", "b", "c"]), [(0, 0), (1, 1), (2, 2)])
        self.assertEqual(kept(["a", "a", "a"], ["a", "a", "a"]), [(0, 0), (1, 1), (2, 2)])

    def test_one_list_as_both(self):
        texts = ["b", "a", "b"]
        self.assertEqual(kept(texts, texts), [(0, 0), (1, 1), (2, 2)])

    def test_nothing_in_common(self):
        self.assertEqual(kept(["a"], ["b"]), [])
        self.assertEqual(kept(["a", "b", "a"], ["c", "d"]), [])

    def test_ordinary_change(self):
        self.assertEqual(kept(["one", "two", "three"], ["one", "2", "three", "four"]), [(0, 0), (2, 2)])
        self.assertEqual(kept(["one", "three"], ["nought", "one", "two", "three"]), [(0, 1), (1, 3)])

    def test_more_than_greedy_finds(self):
        self.assertEqual(kept(["c", "a", "b"], ["a", "b", "c"]), [(1, 0), (2, 1)])
        self.assertEqual(kept(["a", "b", "c", "d"], ["d", "a", "b", "c"]), [(0, 1), (1, 2), (2, 3)])
        self.assertEqual(kept(["x", "a", "y", "b"], ["a", "b", "x", "y"]), [(0, 2), (2, 3)])
        self.assertEqual(kept(["z", "a", "b", "c"], ["a", "b", "c", "z"]), [(1, 0), (2, 1), (3, 2)])

    def test_first_place_decides_ahead_of_second(self):
        self.assertEqual(kept(["a", "b"], ["b", "a"]), [(0, 1)])
        self.assertEqual(kept(["a", "a", "b"], ["b", "a"]), [(0, 1)])

    def test_second_place_decides_where_the_first_is_alike(self):
        self.assertEqual(kept(["a"], ["a", "a", "a"]), [(0, 0)])
        self.assertEqual(kept(["a", "b"], ["a", "a", "b", "b"]), [(0, 0), (1, 2)])

    def test_earliest_of_like_old_texts(self):
        self.assertEqual(kept(["a", "a", "a"], ["a"]), [(0, 0)])
        self.assertEqual(kept(["a", "b", "a", "b"], ["a", "b"]), [(0, 0), (1, 1)])

    def test_texts_are_alike_only_sign_by_sign(self):
        self.assertEqual(kept([""], [""]), [(0, 0)])
        self.assertEqual(kept(["", " ", "a", "A", "a "], ["  ", "A ", " a"]), [])
        self.assertEqual(kept(["a", ""], ["", "a"]), [(0, 1)])
        self.assertEqual(kept(["~" * 80, "1"], ["01", "~" * 80]), [(0, 1)])


class AgainstPlainSearch(unittest.TestCase):
    def hold(self, texts, longest):
        for old in all_lists(texts, longest):
            for new in all_lists(texts, longest):
                # Copies, so that a kept that changes its lists fails here and doesn't run on without end.
                answer = kept(list(old), list(new))
                wanted = by_plain_search(old, new)
                if answer != wanted:
                    self.fail(f"kept({old}, {new}) gave {answer}, not {wanted}")

    def test_two_texts_up_to_five(self):
        self.hold(["a", "b"], 5)

    def test_three_texts_up_to_four(self):
        self.hold(["a", "b", "c"], 4)


class LongLists(unittest.TestCase):
    def test_sixty_all_alike(self):
        self.assertEqual(kept(["a"] * 60, ["a"] * 60), [(k, k) for k in range(60)])

    def test_sixty_in_turn(self):
        self.assertEqual(kept(["a", "b"] * 30, ["b", "a"] * 30), [(k, k + 1) for k in range(59)])

    def test_sixty_with_nothing_in_common(self):
        self.assertEqual(kept(["a"] * 60, ["b"] * 60), [])

    def test_sixty_with_many_alike(self):
        for count in (2, 3, 5):
            for step in range(4):
                texts = ["a", "b", "c", "d", "e"][:count]
                old, new = mixed(texts, 60, step), mixed(texts, 60, step + 100)
                with self.subTest(count=count, step=step):
                    self.assertEqual(kept(old, new), by_comparing_answers(old, new))

    def test_more_than_sixty_is_answered(self):
        for sizes in ((61, 60), (60, 61), (75, 90), (100, 0)):
            old, new = mixed(["a", "b", "c"], sizes[0], 7), mixed(["a", "b", "c"], sizes[1], 8)
            with self.subTest(sizes=sizes):
                self.assertEqual(kept(old, new), by_comparing_answers(old, new))
        self.assertEqual(kept(["a"] * 120, ["a"] * 130), [(k, k) for k in range(120)])

    def test_both_searches_of_this_file_agree(self):
        for old in all_lists(["a", "b"], 4):
            for new in all_lists(["a", "b"], 4):
                self.assertEqual(by_comparing_answers(old, new), by_plain_search(old, new))


class ListsHandedInAndGivenBack(unittest.TestCase):
    def test_kinds(self):
        for old, new in ((["a", "b"], ["b", "a", "b"]), ([], []), (["a"], ["b"])):
            answer = kept(old, new)
            self.assertIs(type(answer), list)
            for pair in answer:
                self.assertIs(type(pair), tuple)
                self.assertEqual([type(place) for place in pair], [int, int])

    def test_lists_handed_in_are_not_changed(self):
        for old in all_lists(["a", "b"], 3):
            for new in all_lists(["a", "b"], 3):
                old_copy, new_copy = list(old), list(new)
                kept(old, new)
                self.assertEqual((old, new), (old_copy, new_copy))

    def test_changing_the_answer_changes_no_later_answer(self):
        for old, new in ((["a", "b"], ["a", "b"]), ([], []), (["a"], ["b"])):
            answer = kept(old, new)
            wanted = list(answer)
            answer.append((7, 7))
            self.assertEqual(kept(old, new), wanted)
            answer.clear()
            self.assertEqual(kept(old, new), wanted)

    def test_changing_a_list_handed_in_changes_no_answer(self):
        old, new = ["a", "b"], ["b", "a", "b"]
        answer = kept(old, new)
        self.assertEqual(answer, [(0, 1), (1, 2)])
        old.clear()
        new[0] = "c"
        self.assertEqual(answer, [(0, 1), (1, 2)])
        self.assertEqual(kept(["a", "b"], ["b", "a", "b"]), [(0, 1), (1, 2)])
        self.assertEqual(kept(old, new), [])

    def test_changed_lists_are_read_anew(self):
        old, new = ["a"], ["a"]
        self.assertEqual(kept(old, new), [(0, 0)])
        new.insert(0, "b")
        self.assertEqual(kept(old, new), [(0, 1)])
        old[0] = "b"
        self.assertEqual(kept(old, new), [(0, 0)])


if __name__ == "__main__":
    unittest.main()
