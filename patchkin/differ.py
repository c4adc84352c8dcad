"""Which texts of an old list are kept in a new one."""


def counts_with(text, new, below):
    counts = [0] * (len(new) + 1)
    for second in range(len(new) - 1, -1, -1):
        if new[second] == text:
            counts[second] = below[second + 1] + 1
        else:
            counts[second] = max(below[second], counts[second + 1])
    return counts


# The table is filled from the ends of both lists, so that kept can walk from their
# beginnings and know at each place how many pairs are still to be had behind it.
def most_pairs(old, new):
    table = [[0] * (len(new) + 1) for place in range(len(old) + 1)]
    for first in range(len(old) - 1, -1, -1):
        table[first] = counts_with(old[first], new, table[first + 1])
    return table


def place_from(texts, text, start):
    for place in range(start, len(texts)):
        if texts[place] == text:
            return place
    return None


# A pair is taken as soon as it costs nothing of the greatest number. The nearest like
# text is the only one to try: it leaves the most of the new list for later pairs.
def kept(old, new):
    table = most_pairs(old, new)
    pairs = []
    start = 0
    for first in range(len(old)):
        second = place_from(new, old[first], start)
        if second is not None and table[first + 1][second + 1] + 1 == table[first][start]:
            pairs.append((first, second))
            start = second + 1
    return pairs
