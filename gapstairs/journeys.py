"""Journeys with loads through a house, each one form for all bodies (point 103)."""

from gapstairs.bodies import check_body
from gapstairs.checks import is_list, is_number
from gapstairs.errors import BadJourney
from gapstairs.floors import check_house, check_house_place, is_place_in, room_in
from gapstairs.forms import (
    Form, behind_rounds, body_behind, followed, load_at, repeated_of, rounds_of, still_at,
)
from gapstairs.lifts import stairs_in
from gapstairs.stairs import ALL, has

MOST_ROWS = 40
MOST_TIMES = 8


def is_plain_row(house, thing):
    """Whether any value is a row "to" or "load"."""
    if not isinstance(thing, tuple) or len(thing) == 0:
        return False
    if thing[0] == "to":
        return len(thing) == 2 and is_place_in(house, thing[1])
    return thing[0] == "load" and len(thing) == 3 and is_number(thing[1]) and is_number(thing[2])


def has_times_form(thing):
    """Whether any value is a row "times", whatever stands for its journey."""
    if not isinstance(thing, tuple) or len(thing) != 3:
        return False
    return thing[0] == "times" and is_number(thing[1]) and thing[1] >= 0


def rows_left(house, thing, deep, most):
    """How many of at most so many rows any value leaves as a journey; below 0 if it is none."""
    if not is_list(thing) or deep > MOST_TIMES:
        return -1
    left = most - len(thing)
    for row in thing:
        # Asked here, so that no more rows are looked at than a journey may have.
        if left < 0:
            return -1
        if has_times_form(row):
            left = rows_left(house, row[2], deep + 1, left)
        elif not is_plain_row(house, row):
            return -1
    return left


def is_journey_in(house, thing):
    """Whether any value is a journey in what is surely a House."""
    return rows_left(house, thing, 0, MOST_ROWS) >= 0


class Guide:
    """A house, and the staircases between its places as far as they have been asked for."""

    def __init__(self, house):
        self.house = house
        self.known = {}


def stairs_for(guide, here, there):
    """The staircase of the bodies that get from here to there."""
    if (here, there) not in guide.known:
        guide.known[(here, there)] = stairs_in(guide.house, here, there)
    return guide.known[(here, there)]


def form_of_row(guide, here, row):
    """The Form of a row that is done from here."""
    if row[0] == "to":
        return Form(here, row[1], stairs_for(guide, here, row[1]), (1, 1), (0, 0))
    if row[0] == "load":
        return load_at(here, room_in(guide.house, here), (row[1], row[2]))
    if row[1] == 0:
        return still_at(here, ALL)
    first = form_of_rows(guide, here, row[2])
    if row[1] == 1:
        return first
    # Wherever it began, a journey leads to one place: from the second time on it goes round.
    again = first if first.end == here else form_of_rows(guide, first.end, row[2])
    return followed(first, repeated_of(again, row[1] - 1))


def form_of_rows(guide, here, journey):
    """The Form of a journey from here, for bodies that fit here."""
    form = still_at(here, room_in(guide.house, here))
    for row in journey:
        form = followed(form, form_of_row(guide, form.end, row))
    return form


class Walk:
    """Where a body stands on a journey, what it is, and how many rows it has done."""

    def __init__(self, here, body):
        self.here = here
        self.body = body
        self.done = 0


def walk_row(guide, walk, row):
    """Do a row as far as the body can; whether it is done."""
    if row[0] == "times":
        return row[1] == 0 or walk_times(guide, walk, row[1], row[2])
    form = form_of_row(guide, walk.here, row)
    if not has(form.stairs, walk.body):
        return False
    walk.here = form.end
    walk.body = body_behind(form, walk.body)
    walk.done += 1
    return True


def walk_rows(guide, walk, journey):
    """Do a journey as far as the body can; whether it is done."""
    for row in journey:
        if not walk_row(guide, walk, row):
            return False
    return True


def walk_times(guide, walk, times, journey):
    """Do a journey so many times, from 1 on, as far as the body can; whether it is done."""
    before = walk.done
    if not walk_rows(guide, walk, journey):
        return False
    many = walk.done - before
    again = form_of_rows(guide, walk.here, journey)
    most = rounds_of(again, walk.body)
    whole = times - 1 if most is None else min(most, times - 1)
    walk.body = behind_rounds(again, walk.body, whole)
    walk.done += whole * many
    return whole == times - 1 or walk_rows(guide, walk, journey)


def check_journey(house, start, journey):
    check_house(house)
    check_house_place(house, start)
    if not is_journey_in(house, journey):
        raise BadJourney("a journey is a list of rows to, load and times")


def is_journey(house, thing):
    """Whether any value is a journey in the house."""
    check_house(house)
    return is_journey_in(house, thing)


def journey_form(house, start, journey):
    """The Form of the journey: for just the bodies that can do it whole."""
    check_journey(house, start, journey)
    return form_of_rows(Guide(house), start, journey)


def stopped(house, start, journey, body):
    """How many rows are done ahead of the first that the body cannot do, where and what it is then; None for all."""
    check_journey(house, start, journey)
    check_body(body)
    walk = Walk(start, body)
    if has(room_in(house, start), body) and walk_rows(Guide(house), walk, journey):
        return None
    return (walk.done, walk.here, walk.body)
