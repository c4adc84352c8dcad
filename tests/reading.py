"""What the tests of the desk share: a plain and slow reading of what a desk tells, a
snapshot of all that it tells, and desks made by a fixed series of drawn deeds."""

import itertools

from patchkin.desk import Desk
from patchkin.differ import kept
from patchkin.errors import Leant, Same, Unsettled

STORES = ("work", "attic", "moor")
FILES = ("song", "list")


class Reading:
    """A store, read word by word out of what has and told tell and nothing else."""

    def __init__(self, desk, store):
        self.names = desk.has(store)
        self.told = {name: desk.told(name) for name in self.names}

    def live(self, name):
        return not any(self.told[back][3] == name and self.live(back) for back in self.names)

    def lines(self, file):
        """All lines that were put into the file, standing or not, in the order of point 3."""
        found = {}
        for name in self.names:
            if self.told[name][0] == file:
                for number, put in enumerate(self.told[name][1]):
                    found[name, number] = put
        return found

    def stands(self, line):
        cutters = [name for name in self.names if line in self.told[name][2]]
        return self.live(line[0]) and not any(self.live(name) for name in cutters)

    def ahead(self, file):
        """All pairs of lines of which the first is ahead of the second."""
        lines = self.lines(file)
        pairs = set()
        for line, (text, upper, lower) in lines.items():
            if upper is not None:
                pairs.add((upper, line))
            if lower is not None:
                pairs.add((line, lower))
        for middle in lines:
            firsts = [first for first in lines if (first, middle) in pairs]
            lasts = [last for last in lines if (middle, last) in pairs]
            pairs.update(itertools.product(firsts, lasts))
        return pairs

    def file(self, file):
        """What row, quarrels and stay must tell of the file."""
        lines, ahead = self.lines(file), self.ahead(file)
        standing = [line for line in lines if self.stands(line)]
        row = []
        while len(row) < len(standing):
            row.append(next(
                line for line in standing
                if line not in row
                and all(other in row for other in standing if (other, line) in ahead)
            ))
        quarrels = [
            (first, second)
            for first, second in itertools.combinations(range(len(row)), 2)
            if (row[first], row[second]) not in ahead and (row[second], row[first]) not in ahead
        ]
        return [line + (lines[line][0],) for line in row], quarrels, longest_peace(len(row), quarrels)


def longest_peace(size, quarrels):
    """Of all lists of places without a quarrel the longest, and of these the first."""
    found = [[]]
    for place in range(size):
        found += [
            places + [place] for places in found
            if not any((other, place) in quarrels for other in places)
        ]
    return min(found, key=lambda places: (-len(places), places))


def leans_by_reading(desk, name):
    """Point 4, from what told tells of this patch and of those that it leans on."""
    file, puts, cuts, other = desk.told(name)
    lines = list(cuts)
    for text, upper, lower in puts:
        lines += [upper, lower]
    straight = {line[0] for line in lines if line is not None} | {other}
    straight -= {None, name}
    for leant in sorted(straight):
        straight |= set(leans_by_reading(desk, leant))
    return [patch for patch in desk.patches() if patch in straight]


def record_by_reading(row, patch, texts):
    """Point 9: the puts and the cuts of a record over this row."""
    pairs = kept([text for name, number, text in row], texts)
    names = [None] * len(texts)
    for first, second in pairs:
        names[second] = row[first][:2]
    put_places = [place for place in range(len(texts)) if names[place] is None]
    for number, place in enumerate(put_places):
        names[place] = (patch, number)
    puts = []
    for place in put_places:
        upper = names[place - 1] if place > 0 else None
        lowers = [names[later] for later in range(place + 1, len(texts)) if later not in put_places]
        puts.append((texts[place], upper, lowers[0] if lowers else None))
    kept_places = [first for first, second in pairs]
    return puts, [line[:2] for place, line in enumerate(row) if place not in kept_places]


def store_snapshot(desk, store, files=FILES):
    rows = [(desk.row(store, file), desk.quarrels(store, file), desk.stay(store, file)) for file in files]
    return desk.has(store), desk.files(store), rows


def snapshot(desk, files=FILES):
    return (
        desk.stores(),
        [(name, desk.told(name), desk.leans(name)) for name in desk.patches()],
        [store_snapshot(desk, store, files) for store in desk.stores()],
    )


def rows_and_quarrels(desk, store):
    return [(desk.row(store, file), desk.quarrels(store, file)) for file in FILES]


def texts_of(desk, store, file):
    return [text for name, number, text in desk.row(store, file)]


class Draw:
    """Numbers without a plain period, the same at each run and on each Python."""

    def __init__(self, seed):
        self.state = seed * 7919 + 1

    def below(self, bound):
        self.state = (self.state * 6364136223846793005 + 1442695040888963407) % 18446744073709551616
        return (self.state >> 33) % bound

    def one_of(self, choices):
        return choices[self.below(len(choices))]

    def shuffled(self, things):
        left, mixed = list(things), []
        while left:
            mixed.append(left.pop(self.below(len(left))))
        return mixed

    def changed_texts(self, texts, longest=6):
        """Some texts put in, taken out and exchanged, out of a few, so that many are alike."""
        texts = list(texts)
        for _ in range(1 + self.below(4)):
            place = self.below(len(texts) + 1)
            deed = self.below(6)
            if deed < 4 and len(texts) < longest:
                texts.insert(place, self.one_of(["la", "lo", "", "hey"]))
            elif deed == 4:
                texts[place:place + 1] = []
            else:
                texts[place:place + 1] = [self.one_of(["la", "lo", "mm"])]
        return texts


def patch_name(number):
    """Names whose order as texts is not the order of making."""
    return "qdzkbxmeuaw"[number % 11] + str(number * 7 % 40)


class DrawnDesk:
    """A desk of three stores and two files, driven by drawn deeds, and, kept beside it,
    which patches each store must have. A deed gives back what came of it and whether that is
    what the document asks, or None where there is nothing to do it to."""

    def __init__(self, seed):
        self.draw = Draw(seed)
        self.desk = Desk()
        self.has = {}
        self.made = 0
        for store in STORES:
            self.desk.begin(store)
            self.has[store] = set()
        if seed % 2 == 1:
            self.share_a_song()

    def share_a_song(self):
        """A beginning that all stores have, so that more of what follows is about the same lines."""
        name = self.new_name()
        self.desk.record(STORES[0], name, FILES[0], ["la", "hey", "lo", "la"])
        self.note_made(STORES[0])
        for store in STORES[1:]:
            self.desk.take(store, STORES[0], name)
            self.has[store].add(name)

    def run(self, deeds):
        for _ in range(deeds):
            self.deed()
        return self

    def deed(self):
        """Draws again where there was nothing to do a deed to."""
        deeds = [self.record] * 6 + [self.cut] * 2 + [self.back] * 2 + [self.take] * 8 + [self.drop] * 2
        done = None
        while done is None:
            done = self.draw.one_of(deeds)(self.draw.one_of(STORES))
        return done

    def new_name(self):
        return patch_name(self.made)

    def note_made(self, store):
        self.has[store].add(self.new_name())
        self.made += 1

    def record(self, store):
        file = self.draw.one_of(FILES)
        texts = self.draw.changed_texts(texts_of(self.desk, store, file))
        row, quarrels, stay = Reading(self.desk, store).file(file)
        try:
            self.desk.record(store, self.new_name(), file, texts)
        except Unsettled:
            return "unsettled", bool(quarrels)
        except Same:
            return "same", not quarrels and [line[2] for line in row] == texts
        wanted = (file,) + record_by_reading(row, self.new_name(), texts) + (None,)
        right = not quarrels and self.desk.told(self.new_name()) == wanted
        self.note_made(store)
        return "record", right

    def cut(self, store):
        file = self.draw.one_of(FILES)
        row = self.desk.row(store, file)
        if not row:
            return None
        places = [place for place in range(len(row)) if self.draw.below(2) == 0]
        try:
            self.desk.cut(store, self.new_name(), file, places)
        except Same:
            return "cut nothing", places == []
        wanted = (file, [], [row[place][:2] for place in places], None)
        right = self.desk.told(self.new_name()) == wanted
        self.note_made(store)
        return "cut", right

    def back(self, store):
        if not self.has[store]:
            return None
        other = self.draw.one_of(sorted(self.has[store]))
        self.desk.back(store, self.new_name(), other)
        right = self.desk.told(self.new_name()) == (None, [], [], other)
        again = self.desk.told(other)[3] is not None
        self.note_made(store)
        return "back of a back" if again else "back", right

    def take(self, store):
        source = self.draw.one_of(STORES)
        if not self.has[source]:
            return None
        fresh = sorted(self.has[source] - self.has[store])
        patch = self.draw.one_of(fresh if fresh and self.draw.below(8) else sorted(self.has[source]))
        wanted = set(leans_by_reading(self.desk, patch) + [patch]) - self.has[store]
        right = self.desk.take(store, source, patch) == [name for name in self.desk.patches() if name in wanted]
        self.has[store] |= wanted
        return "take" if wanted else "take nothing", right

    def drop(self, store):
        if not self.has[store]:
            return None
        patch = self.draw.one_of(sorted(self.has[store]))
        leant = any(patch in leans_by_reading(self.desk, other) for other in self.has[store])
        try:
            self.desk.drop(store, patch)
        except Leant:
            return "leant", leant
        self.has[store].remove(patch)
        return "drop", not leant
