"""Joinings that stand for stretches of time known ahead.

A row is a tuple (one, other, step, begin, end): its joining stands from begin to below end.
"""

from joinback.plain import numbers_of
from joinback.standings import class_with, own_way
from joinback.steps import counted


def standing_at(rows, time):
    """The rising list of the numbers of the rows that stand at a time."""
    return [number for number, (one, other, step, begin, end) in enumerate(rows) if begin <= time < end]


def joinings_at(rows, time):
    """The list of the joinings that stand at a time."""
    return [rows[number][:3] for number in standing_at(rows, time)]


def turning_times(rows):
    """The rising list of nought and of all times at which a row begins or ends.

    Between two of them the same rows stand, and from the last one on none does.
    """
    return sorted(set([0] + [row[3] for row in rows] + [row[4] for row in rows]))


def stretches_of(times, marks):
    """The greatest stretches (begin, end) with a mark; each mark is of its time and up to the next one.

    The last time bears no mark, so that each stretch has its end.
    """
    found = []
    begin = None
    for time, mark in zip(times, marks):
        if mark and begin is None:
            begin = time
        if not mark and begin is not None:
            found.append((begin, time))
            begin = None
    return found


def answer_at(names, turn, rows, one, other, time):
    """("clash", name, ring), ("steps", n), or ("apart", some)."""
    joinings = joinings_at(rows, time)
    told = numbers_of(names, joinings, turn)
    if told[0] == "ring":
        return ("clash", told[1], own_way(standing_at(rows, time), told[2]))
    group = class_with(names, joinings, one)
    if other not in group:
        return ("apart", group)
    numbers = dict(told[1])
    return ("steps", counted(turn, numbers[other] - numbers[one]))


def answers_at(names, turn, rows, asks):
    """The list of answers, one for each (one, other, time) that is asked."""
    return [answer_at(names, turn, rows, one, other, time) for one, other, time in asks]


def clash_times(names, turn, rows):
    """The rising list of (begin, end), the greatest stretches in which those that stand clash."""
    times = turning_times(rows)
    marks = [numbers_of(names, joinings_at(rows, time), turn)[0] == "ring" for time in times]
    return stretches_of(times, marks)
