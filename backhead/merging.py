"""Stands of a reader merged as far as no word tells them apart.

Rows are, throughout, those of a reader; good tells of each stand whether it is good.
"""


class Parting:

    def __init__(self, good):
        self.part_of = []
        self.parts = [{}, {}]
        self.waiting = [0, 1]
        self.waits = [True, True]
        for stand, mark in enumerate(good):
            part = 1 if mark else 0
            self.part_of.append(part)
            self.parts[part][stand] = True

    def take_goals(self):
        part = self.waiting.pop()
        self.waits[part] = False
        return list(self.parts[part])

    def let_wait(self, part):
        self.waits[part] = True
        self.waiting.append(part)

    def part_off(self, part, stands):
        rest = self.parts[part]
        if len(stands) == len(rest):
            return
        fresh = len(self.parts)
        self.parts.append({})
        self.waits.append(False)
        for stand in stands:
            rest.pop(stand)
            self.parts[fresh][stand] = True
            self.part_of[stand] = fresh
        # Where the whole part was looked back from already, the smaller half is enough:
        # each stand is then looked back from only as often as its part can be halved.
        if self.waits[part] or len(stands) <= len(rest):
            self.let_wait(fresh)
        else:
            self.let_wait(part)


def arrows_back(rows, letter):
    back = [[] for row in rows]
    for stand, row in enumerate(rows):
        back[row[letter]].append(stand)
    return back


def leading_to(goals, back, part_of):
    found = {}
    for goal in goals:
        for stand in back[goal]:
            part = part_of[stand]
            if part not in found:
                found[part] = []
            found[part].append(stand)
    return found


def parts_of_stands(letters, rows, good):
    backs = [arrows_back(rows, letter) for letter in range(letters)]
    parting = Parting(good)
    while len(parting.waiting) > 0:
        goals = parting.take_goals()
        for back in backs:
            found = leading_to(goals, back, parting.part_of)
            for part, stands in found.items():
                parting.part_off(part, stands)
    return parting.part_of


def reached_in_order(rows):
    order = [0]
    known = {0: True}
    at = 0
    while at < len(order):
        row = rows[order[at]]
        for goal in row:
            if goal not in known:
                known[goal] = True
                order.append(goal)
        at += 1
    return order


def renumbered(rows, kept, numbers):
    return tuple([tuple([numbers[goal] for goal in rows[stand]]) for stand in kept])


def least_reader(letters, rows, good):
    order = reached_in_order(rows)
    places = dict([(stand, place) for place, stand in enumerate(order)])
    near = renumbered(rows, order, places)
    marks = [good[stand] for stand in order]
    part_of = parts_of_stands(letters, near, marks)
    # The stands stand here in order of their first words, so a part's first one gives its number.
    numbers = {}
    kept = []
    for stand, part in enumerate(part_of):
        if part not in numbers:
            numbers[part] = len(kept)
            kept.append(stand)
    rows_kept = renumbered(near, kept, [numbers[part] for part in part_of])
    return (letters, rows_kept, tuple([place for place, stand in enumerate(kept) if marks[stand]]))
