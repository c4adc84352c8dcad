"""Lines and patches: which lines stand, which is ahead of which, and what comes of it."""


class Line:
    def __init__(self, name, text, upper_name, lower_name):
        self.name = name
        self.text = text
        self.upper_name = upper_name
        self.lower_name = lower_name


# A back has no file, puts no lines and cuts none; any other patch has None as its other.
class Patch:
    def __init__(self, name, file, puts, cuts, other):
        self.name = name
        self.file = file
        self.puts = puts
        self.cuts = cuts
        self.other = other


def lines_named_by(patch):
    names = list(patch.cuts)
    for line in patch.puts:
        names.append(line.upper_name)
        names.append(line.lower_name)
    return [name for name in names if name is not None]


def leans_straight_on(patch):
    leant = [name[0] for name in lines_named_by(patch) if name[0] != patch.name]
    if patch.other is not None:
        leant.append(patch.other)
    return leant


# The youngest patch is asked first: only a younger one can take a patch back, so by
# then it is known of each back whether it is live itself.
def live_patches(patches):
    taken_back = {}
    live = []
    for patch in reversed(patches):
        if patch.name not in taken_back:
            live.append(patch)
            if patch.other is not None:
                taken_back[patch.other] = True
    return list(reversed(live))


def lines_put(patches, file):
    lines = []
    for patch in patches:
        if patch.file == file:
            lines.extend(patch.puts)
    return lines


def standing_lines(patches, file):
    live = live_patches(patches)
    gone = {}
    for patch in live:
        for name in patch.cuts:
            gone[name] = True
    return [line for line in lines_put(live, file) if line.name not in gone]


def files_with_lines(patches):
    files = [patch.file for patch in patches if patch.file is not None]
    return [file for file in sorted(set(files)) if standing_lines(patches, file)]


def straight_ahead(lines):
    straight = {}
    for line in lines:
        straight[line.name] = {}
    for line in lines:
        if line.upper_name is not None:
            straight[line.name][line.upper_name] = True
        if line.lower_name is not None:
            straight[line.lower_name][line.name] = True
    return straight


def joined(names, ahead):
    found = {}
    for name in names:
        found[name] = True
        found.update(ahead[name])
    return found


# Of each line's name the names of all lines ahead of it. The walk upwards keeps a list
# of its own, since one line may stand some hundred steps behind another.
def all_ahead(lines):
    straight = straight_ahead(lines)
    ahead = {}
    for line in lines:
        climb = [line.name]
        while climb:
            name = climb.pop()
            if name in ahead:
                continue
            missing = [other for other in straight[name] if other not in ahead]
            if missing:
                climb.append(name)
                climb.extend(missing)
            else:
                ahead[name] = joined(straight[name], ahead)
    return ahead


def first_free(waiting):
    for name in waiting:
        if waiting[name] == 0:
            return name
    return None


# Each line waits for the standing lines ahead of it; the dict keeps the order in which
# the lines were handed in, so the first that waits for none is the one that is due.
def row_of(lines, ahead):
    by_name = {}
    waiting = {}
    for line in lines:
        by_name[line.name] = line
        waiting[line.name] = len([other for other in lines if other.name in ahead[line.name]])
    row = []
    while waiting:
        name = first_free(waiting)
        waiting.pop(name)
        row.append(by_name[name])
        for other in list(waiting):
            if name in ahead[other]:
                waiting[other] = waiting[other] - 1
    return row


# One file as a store sees it. In the row no line stands behind one that it is ahead of,
# so of two places only the lesser can be ahead.
class Sight:
    def __init__(self, patches, file):
        self.ahead = all_ahead(lines_put(patches, file))
        self.lines = row_of(standing_lines(patches, file), self.ahead)

    def is_ahead(self, first, second):
        return self.lines[first].name in self.ahead[self.lines[second].name]

    def quarrelling(self):
        pairs = []
        for first in range(len(self.lines)):
            for second in range(first + 1, len(self.lines)):
                if not self.is_ahead(first, second):
                    pairs.append((first, second))
        return pairs

    # At each place, the most places from it on of which no two quarrel.
    def most_from(self):
        counts = [1] * len(self.lines)
        for first in range(len(self.lines) - 1, -1, -1):
            for second in range(first + 1, len(self.lines)):
                if counts[second] >= counts[first] and self.is_ahead(first, second):
                    counts[first] = counts[second] + 1
        return counts

    # What is ahead of a line is ahead of all behind it, so a place need only be held
    # against the last one chosen.
    def staying(self):
        counts = self.most_from()
        left = max(counts, default=0)
        places = []
        for place in range(len(self.lines)):
            if counts[place] == left and (not places or self.is_ahead(places[-1], place)):
                places.append(place)
                left = left - 1
        return places
