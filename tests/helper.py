"""What several files of tests share: names, joinings, other roads to answers, spoilt papers."""

import itertools

FAR = 10 ** 12
TURNS = (0, 1, 2, 3, 1000)
FORTY = [chr(97 + at // 10) + chr(97 + at % 10) for at in range(40)]


def some_joinings(chance, names, many, steps):
    return [(chance.choice(names), chance.choice(names), chance.choice(steps)) for again in range(many)]


def long_row_among(chance, many):
    """A row of joinings along all forty names, shuffled among so many joinings of near names."""
    joinings = [(FORTY[at], FORTY[at + 1], at) for at in range(39)]
    while len(joinings) < many:
        at = chance.randrange(38)
        joinings.append((FORTY[at + chance.randrange(3)], FORTY[at], chance.randrange(-9, 9)))
    chance.shuffle(joinings)
    return [joining if chance.random() < 0.5 else (joining[1], joining[0], -joining[2]) for joining in joinings]


def plain_classes(names, joinings):
    """The classes by another road: labels that are made alike until nothing changes."""
    label = {name: name for name in names}
    changed = True
    while changed:
        changed = False
        for one, other, _ in joinings:
            least = min(label[one], label[other])
            if label[one] != least or label[other] != least:
                label[one] = label[other] = least
                changed = True
    return sorted([sorted([n for n in names if label[n] == head]) for head in set(label.values())])


def are_together(joinings, one, other):
    names = {one, other} | {name for joining in joinings for name in joining[:2]}
    return any(one in group and other in group for group in plain_classes(sorted(names), joinings))


def small_joinings(names, steps, most):
    """All lists of at most so many joinings of these names and steps."""
    each = list(itertools.product(names, names, steps))
    for many in range(most + 1):
        for joinings in itertools.product(each, repeat=many):
            yield list(joinings)


def is_of(thing, *kinds):
    """Whether a thing is of just one of these kinds; True and False are no numbers."""
    return thing.__class__ in kinds


def formed_way(joinings, way):
    """Whether a paper is a tuple of pairs of joinings that are there."""
    return is_of(way, tuple) and all(
        is_of(pair, tuple)
        and [part.__class__ for part in pair] == [int, int]
        and pair[0] in range(len(joinings))
        and pair[1] in (1, -1)
        for pair in way
    )


def gone_through(joinings, start, way):
    """The names that a way meets from start, with start; None where it breaks off."""
    met = [start]
    for number, side in way:
        begin, end = joinings[number][:2][::side]
        if begin != met[-1]:
            return None
        met.append(end)
    return met


def plainly_straight(joinings, one, other, way):
    """Whether a paper is a straight way from one to other, as the document tells it."""
    if not formed_way(joinings, way):
        return False
    met = gone_through(joinings, one, way)
    return met is not None and met[-1] == other and len(set(met)) == len(met)


def plainly_parting(joinings, one, other, some):
    """Whether a list of names bears one, not other, none twice, and no joining leads out of it."""
    if len(set(some)) < len(some) or some.count(one) != 1 or some.count(other) != 0:
        return False
    return not any(len({begin, end} - set(some)) == 1 and begin != end for begin, end, step in joinings)


def lists_in(told):
    """All lists that a told thing is made of, itself too."""
    if is_of(told, list):
        yield told
    if is_of(told, list, tuple):
        for part in told:
            yield from lists_in(part)


def is_plainly_made(told):
    """Whether a told thing is made of tuples, lists, numbers, texts, True, False and None."""
    if is_of(told, list, tuple):
        return all(is_plainly_made(part) for part in told)
    return is_of(told, int, str, bool) or told is None


def spoil_lists(told):
    """Changes every list of a told thing, as an asker may."""
    for found in list(lists_in(told)):
        found.reverse()
        found.append("spoilt")


def check_told_is_own(case, ask):
    """The same is told twice, made of plain things, with no list twice; changing it changes nothing else."""
    told, again = ask(), ask()
    case.assertEqual(told, again)
    case.assertTrue(is_plainly_made(told))
    found = list(lists_in([told, again]))
    case.assertEqual(len({id(one) for one in found}), len(found))
    spoil_lists(told)
    case.assertEqual(ask(), again)


def joinings_that_come_out(chance, names, many, turn):
    """Joinings that agree with hidden numbers, but for some that are off by a step."""
    hidden = {name: chance.choice((chance.randrange(-9, 10), FAR // 2, -FAR // 2)) for name in names}
    joinings = []
    for again in range(many):
        one, other = chance.choice(names), chance.choice(names)
        off = chance.choice((0, 0, 0, 0, 1, -1, turn))
        joinings.append((one, other, hidden[other] - hidden[one] + off))
    return joinings


def some_rows(chance, names, many, last):
    """Rows of chance steps and stretches of time, now and then alike, turned about, touching or in one another."""
    rows = []
    for again in range(many):
        begin = chance.randrange(last)
        row = (chance.choice(names), chance.choice(names), chance.choice((0, 0, 0, 1, -2)))
        rows.append(row + (begin, chance.randrange(begin, last) + 1))
        if chance.random() < 0.2:
            one, other, step, begin, end = chance.choice(rows)
            rows.append((other, one, -step, end, end + chance.randrange(1, 4)))
    return rows[:many]


def times_about(rows):
    """Nought, every begin and end, and the times beside them."""
    return sorted({0} | {max(0, time + off) for row in rows for time in row[3:] for off in (-1, 0, 1)})


def joinings_then(rows, time):
    """The joinings that stand at a time, by the document's words."""
    return [(one, other, step) for one, other, step, begin, end in rows if time in range(begin, end)]


def check_stretches(case, told, rows, holds):
    """They rise, none is empty, none touch, and their times are those at which it holds of what stands."""
    for begin, end in told:
        case.assertLess(begin, end)
    for (begin, end), (later, last) in zip(told, told[1:]):
        case.assertLess(end, later)
    for time in times_about(rows):
        inside = any(begin <= time < end for begin, end in told)
        case.assertEqual(inside, holds(joinings_then(rows, time)), (rows, time))
    edges = {time for row in rows for time in row[3:]}
    case.assertLessEqual({time for stretch in told for time in stretch}, edges)


def told_or_refused(ask, *things):
    """What is told, or the name of the refusal's class."""
    try:
        return ask(*things)
    except ValueError as refusal:
        return refusal.__class__.__name__


def mesh_face(mesh, pool):
    """All that a mesh tells of these names, there or not, as it is now."""
    told = [mesh.names_now(), mesh.standing(), mesh.holding(), mesh.all_classes(), mesh.moment()]
    told += [told_or_refused(mesh.class_of, name) for name in pool]
    for one, other in itertools.product(pool, repeat=2):
        told += [told_or_refused(ask, one, other) for ask in (mesh.together, mesh.steps, mesh.way, mesh.few_way)]
        told += [mesh.times_together(one, other), mesh.eldest_time(one, other)]
    return told


def number_that_comes_next(mesh):
    """The number that a mesh gives to its next joining, asked of a copy."""
    mesh = mesh.copy()
    if not mesh.names_now():
        mesh.put_name("new")
    name = mesh.names_now()[0]
    return mesh.join(name, name, 0)[1]


def chance_deed(chance, mesh, pool):
    """A deed of a mesh, with what it's handed: now and then one that is refused or clashes."""
    name, numbers = chance.choice(pool), [row[0] for row in mesh.standing()]
    luck = chance.random()
    if luck < 0.1:
        return ("put_name", name)
    if luck < 0.14:
        return ("drop_name", name)
    if luck < 0.3:
        return ("take", chance.choice(numbers + [-1, 0, 99]))
    return ("join", name, chance.choice(mesh.names_now() + [name]), chance.choice((0, 0, 0, 0, 2, -2, 1)))


def deep(kind, inner, many):
    thing = inner
    for again in range(many):
        thing = kind([thing])
    return thing


ODD = [
    0, 1, -1, 2, 3, 5, 10 ** 12, 10 ** 40, -10 ** 40, True, False, None,
    "", "a", "b", "d", "zz", "A", "a b", "abcdefghi", "0", "ab", "None",
    [], (), [[]], [()], ([],), ((),), [None], (None,), [True], (True,), ["a"], ("a",), ["a", "b"], ("a", "b"),
    [0], (0,), [0, 1], (0, 1), (0, -1), (1, 0), (True, 1), (0, True), [(0, 1)], ((0, 1),), ((0, 1), (0, -1)),
    ("a", 0), ["a", 0], [("a", 0)], ("a", 0, 0), ("a", None), (None, 0), ([], 0), (0, []), ((), ()),
    deep(list, 0, 10), deep(tuple, 0, 10), deep(tuple, "a", 9), deep(list, (0, 1), 9), deep(list, None, 10),
]


def spoilt(paper):
    """Papers that are spoilt by one thing, at any part of this one; the kinds of things are odd ones."""
    yield from ODD
    if is_of(paper, str):
        yield from (paper + "a", paper[:-1], paper.upper(), paper[::-1], [paper], (paper,), list(paper))
    if is_of(paper, int):
        yield from (paper + 1, paper - 1, -paper, ~paper, str(paper), bool(paper), [paper], (paper,))
    if is_of(paper, list, tuple):
        yield from spoilt_row(paper)


def spoilt_row(paper):
    kind = paper.__class__
    yield list(paper)
    yield tuple(paper)
    yield paper[::-1]
    yield paper + paper
    for at in range(len(paper) + 1):
        ahead, part, behind = paper[:at], paper[at:at + 1], paper[at + 1:]
        yield ahead + behind
        yield ahead + part + part + behind
        yield part + ahead + behind
        yield ahead + behind + part
        for thing in ODD:
            yield ahead + kind([thing]) + part + behind
        for wrong in (spoilt(part[0]) if part else []):
            yield ahead + kind([wrong]) + behind
