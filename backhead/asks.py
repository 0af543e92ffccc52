"""What is asked of readers: where two differ, which word comes first, how many there are.

Small is, throughout, a least reader. Counts are dicts that tell of stands how many words lead to them; arrows are
a list of such counts, one for each stand from which the words set out.
"""

from backhead.joins import IN_ONE_ALONE, pairs_of
from backhead.readers import least

IN_JUST_ONE = ((True, False), (False, True))


def first_word_to(goal, rows):
    # The rows are in order of the first words that lead to them, so the first arrow
    # to a stand is the last step of its first word.
    ways = {}
    for stand, row in enumerate(rows):
        for letter, near in enumerate(row):
            if near not in ways:
                ways[near] = (stand, letter)
    word = []
    at = goal
    while at != 0:
        word.append(ways[at][1])
        at = ways[at][0]
    return tuple(reversed(word))


def first_joined_word(one, other, wanted):
    pairs = pairs_of(one, other, wanted)
    while pairs.has_more():
        here = len(pairs.rows)
        if pairs.marks[here]:
            return first_word_to(here, pairs.rows)
        pairs.go_on()
    return None


def alike(one, other):
    return first_joined_word(one, other, IN_JUST_ONE)


def within(one, other):
    return first_joined_word(one, other, IN_ONE_ALONE)


def first_word(reader):
    small = least(reader)
    if len(small[2]) == 0:
        return None
    return first_word_to(small[2][0], small[1])


def is_lost(stand, small):
    # A least reader has one stand at most from which no good one is reached, so no letter leads out of it.
    return all([goal == stand for goal in small[1][stand]]) and stand not in small[2]


def arrows_of(small):
    # Words that are lost are left out: there may be vastly more of them than of the others.
    lost = dict([(stand, True) for stand in range(len(small[1])) if is_lost(stand, small)])
    arrows = []
    for row in small[1]:
        counts = {}
        for goal in row:
            if goal not in lost:
                counts[goal] = counts.get(goal, 0) + 1
        arrows.append(counts)
    return arrows


def spread(counts, arrows):
    further = {}
    for stand, count in counts.items():
        for goal, many in arrows[stand].items():
            further[goal] = further.get(goal, 0) + count * many
    return further


def spread_often(arrows, times):
    counts = {0: 1}
    left = times
    longer = arrows
    # Arrows of twice the length halve the steps that are left, but soon lead from each
    # stand to each: that pays only for words far longer than there are stands.
    if times > 4 * len(arrows) ** 2:
        while left > len(arrows):
            if left % 2 == 1:
                counts = spread(counts, longer)
            longer = [spread(row, longer) for row in longer]
            left = left // 2
    for step in range(left):
        counts = spread(counts, longer)
    return counts


def how_many(reader, length):
    small = least(reader)
    counts = spread_often(arrows_of(small), length)
    return sum([counts.get(stand, 0) for stand in small[2]])
