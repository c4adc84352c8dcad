"""The desk: stores, the patches that they make, take from one another and drop, and their files."""

from patchkin.differ import kept
from patchkin.errors import BadName, Leant, NameTaken, NoLine, NoPatch, NoStore, Same, Unsettled
from patchkin.order import Line, Patch, Sight, files_with_lines, leans_straight_on

NAME_SIGNS = "abcdefghijklmnopqrstuvwxyz0123456789"
LONGEST_NAME = 12


def check_name(name):
    if not 1 <= len(name) <= LONGEST_NAME:
        raise BadName(f"a name has 1 to {LONGEST_NAME} signs: {name!r}")
    for sign in name:
        if sign not in NAME_SIGNS:
            raise BadName(f"a name has only letters from a to z and figures: {name!r}")


def check_places(places, size):
    least = 0
    for place in places:
        if not least <= place < size:
            raise NoLine(f"place {place} isn't in the row or doesn't rise")
        least = place + 1


# At each place of a list, the name of the next kept line behind it.
def kept_behind(kept_names, size):
    behind = [None] * size
    for place in range(size - 2, -1, -1):
        behind[place] = kept_names.get(place + 1, behind[place + 1])
    return behind


# kept_names tells the places of the list at which old lines are kept, and their names.
def new_lines(patch, texts, kept_names):
    behind = kept_behind(kept_names, len(texts))
    lines = []
    upper_name = None
    for place, text in enumerate(texts):
        if place in kept_names:
            upper_name = kept_names[place]
        else:
            lines.append(Line((patch, len(lines)), text, upper_name, behind[place]))
            upper_name = lines[-1].name
    return lines


def changing_patch(patch, file, row, texts):
    kept_names = {}
    left = {}
    for first, second in kept([line.text for line in row], texts):
        kept_names[second] = row[first].name
        left[row[first].name] = True
    cuts = [line.name for line in row if line.name not in left]
    return Patch(patch, file, new_lines(patch, texts, kept_names), cuts, None)


# made tells all patches by name, the eldest first; needs, of each, all that it leans on;
# held, of each store, the names of its patches.
class Desk:
    def __init__(self):
        self.made = {}
        self.needs = {}
        self.held = {}

    def begin(self, store):
        check_name(store)
        if store in self.held:
            raise NameTaken(f"there is a store {store!r} already")
        self.held[store] = {}

    def stores(self):
        return list(self.held)

    def patches(self):
        return list(self.made)

    def has(self, store):
        self.check_store(store)
        return [name for name in self.made if name in self.held[store]]

    def record(self, store, patch, file, texts):
        self.check_store(store)
        self.check_new(patch, [file])
        sight = self.sight_of(store, file)
        if sight.quarrelling():
            raise Unsettled(f"lines of {file!r} quarrel")
        if [line.text for line in sight.lines] == texts:
            raise Same(f"the row of {file!r} has just these texts")
        self.keep(store, changing_patch(patch, file, sight.lines, texts))

    def cut(self, store, patch, file, places):
        self.check_store(store)
        self.check_new(patch, [file])
        row = self.sight_of(store, file).lines
        check_places(places, len(row))
        if not places:
            raise Same("no place is to be cut")
        self.keep(store, Patch(patch, file, [], [row[place].name for place in places], None))

    def back(self, store, patch, other):
        self.check_store(store)
        self.check_new(patch, [])
        self.check_held(store, other)
        self.keep(store, Patch(patch, None, [], [], other))

    def take(self, store, source, patch):
        self.check_store(store)
        self.check_store(source)
        self.check_held(source, patch)
        wanted = self.leans(patch) + [patch]
        came = [name for name in wanted if name not in self.held[store]]
        for name in came:
            self.held[store][name] = True
        return came

    def drop(self, store, patch):
        self.check_store(store)
        self.check_held(store, patch)
        for name in self.held[store]:
            if patch in self.needs[name]:
                raise Leant(f"{name!r} leans on {patch!r}")
        self.held[store].pop(patch)

    def leans(self, patch):
        self.check_made(patch)
        return [name for name in self.made if name in self.needs[patch]]

    def told(self, patch):
        self.check_made(patch)
        made = self.made[patch]
        puts = [(line.text, line.upper_name, line.lower_name) for line in made.puts]
        return (made.file, puts, list(made.cuts), made.other)

    def files(self, store):
        return files_with_lines(self.patches_of(store))

    def row(self, store, file):
        return [(line.name[0], line.name[1], line.text) for line in self.sight_of(store, file).lines]

    def quarrels(self, store, file):
        return self.sight_of(store, file).quarrelling()

    def stay(self, store, file):
        return self.sight_of(store, file).staying()

    def patches_of(self, store):
        return [self.made[name] for name in self.has(store)]

    def sight_of(self, store, file):
        return Sight(self.patches_of(store), file)

    def check_store(self, store):
        if store not in self.held:
            raise NoStore(f"there is no store {store!r}")

    def check_made(self, patch):
        if patch not in self.made:
            raise NoPatch(f"there is no patch {patch!r}")

    def check_held(self, store, patch):
        if patch not in self.held[store]:
            raise NoPatch(f"the store {store!r} has no patch {patch!r}")

    # A taken name is told only where every name is one.
    def check_new(self, patch, files):
        for name in [patch] + files:
            check_name(name)
        if patch in self.made:
            raise NameTaken(f"there is a patch {patch!r} already")

    # What a patch leans on never changes, so it is worked out once.
    def keep(self, store, patch):
        needs = {}
        for name in leans_straight_on(patch):
            needs[name] = True
            needs.update(self.needs[name])
        self.needs[patch.name] = needs
        self.made[patch.name] = patch
        self.held[store][patch.name] = True
