"""What several files of tests share: names, joinings, other roads to answers, spoilt papers."""

import itertools

FAR = 10 ** 12
TURNS = (0, 1, 2, 3, 1000)
FORTY = [chr(97 + at // 10) + chr(97 + at % 10) for at in range(40)]


def some_joinings(chance, names, many, steps):
    return [(chance.choice(names), chance.choice(names), chance.choice(steps)) for again in range(many)]


def long_row_among(chance, many):
    """A row of joinings along all forty names, shuffled among so many joinings of near names."""
    joinings = [(FORTY[at], FORTY[at + 1], at) for at in range(39)]
    while len(joinings) < many:
        at = chance.randrange(38)
        joinings.append((FORTY[at + chance.randrange(3)], FORTY[at], chance.randrange(-9, 9)))
    chance.shuffle(joinings)
    return [joining if chance.random() < 0.5 else (joining[1], joining[0], -joining[2]) for joining in joinings]


def plain_classes(names, joinings):
    """The classes by another road: labels that are made alike until nothing changes."""
    label = {name: name for name in names}
    changed = True
    while changed:
        changed = False
        for one, other, _ in joinings:
            least = min(label[one], label[other])
            if label[one] != least or label[other] != least:
                label[one] = label[other] = least
                changed = True
    return sorted([sorted([n for n in names if label[n] == head]) for head in set(label.values())])


def are_together(joinings, one, other):
    names = {one, other} | {name for joining in joinings for name in joining[:2]}
    return any(one in group and other in group for group in plain_classes(sorted(names), joinings))


def small_joinings(names, steps, most):
    """All lists of at most so many joinings of these names and steps."""
    each = list(itertools.product(names, names, steps))
    for many in range(most + 1):
        for joinings in itertools.product(each, repeat=many):
            yield list(joinings)


def is_of(thing, *kinds):
    """Whether a thing is of just one of these kinds; True and False are no numbers."""
    return thing.__class__ in kinds


def formed_way(joinings, way):
    """Whether a paper is a tuple of pairs of joinings that are there."""
    return is_of(way, tuple) and all(
        is_of(pair, tuple)
        and [part.__class__ for part in pair] == [int, int]
        and pair[0] in range(len(joinings))
        and pair[1] in (1, -1)
        for pair in way
    )


def gone_through(joinings, start, way):
    """The names that a way meets from start, with start; None where it breaks off."""
    met = [start]
    for number, side in way:
        begin, end = joinings[number][:2][::side]
        if begin != met[-1]:
            return None
        met.append(end)
    return met


def plainly_straight(joinings, one, other, way):
    """Whether a paper is a straight way from one to other, as the document tells it."""
    if not formed_way(joinings, way):
        return False
    met = gone_through(joinings, one, way)
    return met is not None and met[-1] == other and len(set(met)) == len(met)


def plainly_parting(joinings, one, other, some):
    """Whether a list of names bears one, not other, none twice, and no joining leads out of it."""
    if len(set(some)) < len(some) or some.count(one) != 1 or some.count(other) != 0:
        return False
    return not any(len({begin, end} - set(some)) == 1 and begin != end for begin, end, step in joinings)


def deep(kind, inner, many):
    thing = inner
    for again in range(many):
        thing = kind([thing])
    return thing


ODD = [
    0, 1, -1, 2, 3, 5, 10 ** 12, 10 ** 40, -10 ** 40, True, False, None,
    "", "a", "b", "d", "zz", "A", "a b", "abcdefghi", "0", "ab", "None",
    [], (), [[]], [()], ([],), ((),), [None], (None,), [True], (True,), ["a"], ("a",), ["a", "b"], ("a", "b"),
    [0], (0,), [0, 1], (0, 1), (0, -1), (1, 0), (True, 1), (0, True), [(0, 1)], ((0, 1),), ((0, 1), (0, -1)),
    ("a", 0), ["a", 0], [("a", 0)], ("a", 0, 0), ("a", None), (None, 0), ([], 0), (0, []), ((), ()),
    deep(list, 0, 10), deep(tuple, 0, 10), deep(tuple, "a", 9), deep(list, (0, 1), 9), deep(list, None, 10),
]


def spoilt(paper):
    """Papers that are spoilt by one thing, at any part of this one; the kinds of things are odd ones."""
    yield from ODD
    if is_of(paper, str):
        yield from (paper + "a", paper[:-1], paper.upper(), paper[::-1], [paper], (paper,), list(paper))
    if is_of(paper, int):
        yield from (paper + 1, paper - 1, -paper, ~paper, str(paper), bool(paper), [paper], (paper,))
    if is_of(paper, list, tuple):
        yield from spoilt_row(paper)


def spoilt_row(paper):
    kind = paper.__class__
    yield list(paper)
    yield tuple(paper)
    yield paper[::-1]
    yield paper + paper
    for at in range(len(paper) + 1):
        ahead, part, behind = paper[:at], paper[at:at + 1], paper[at + 1:]
        yield ahead + behind
        yield ahead + part + part + behind
        yield part + ahead + behind
        yield ahead + behind + part
        for thing in ODD:
            yield ahead + kind([thing]) + part + behind
        for wrong in (spoilt(part[0]) if part else []):
            yield ahead + kind([wrong]) + behind
