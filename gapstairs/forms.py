"""Forms: what a journey does to all bodies (point 102)."""

from gapstairs.bodies import check_body, is_body
from gapstairs.checks import check_by, is_number, is_number_pair
from gapstairs.errors import (
    BadBy, BadEnd, BadForm, BadLeast, BadPlace, BadStairs, BadStart, BadTimes, NotJoined, NotRound,
)
from gapstairs.stairs import ALL, barred, both, check_stairs, has, is_stairs, moved, notches_of


def is_any_place(thing):
    """Whether any value is a pair of a number from 0 on and a spot."""
    if not isinstance(thing, tuple) or len(thing) != 2 or not is_number(thing[0]) or thing[0] < 0:
        return False
    return is_number_pair(thing[1])


def greatest(stairs, index):
    """The greatest size that bodies of a staircase with corners have at the index; None if there is none."""
    return stairs[-1][0] if index == 0 else stairs[0][1]


def grown(least, by, size):
    """What a size becomes."""
    return max(least, size + by)


def plain_by(stairs, least, by, index):
    """The number by which the greatest size grows, which tells the same as by."""
    most = greatest(stairs, index)
    return by[index] if most is None else grown(least[index], by[index], most) - most


class Form:
    """The bodies that do something from place to place, and what becomes of their sizes."""

    def __init__(self, start, end, stairs, least, by):
        if not is_any_place(start):
            raise BadStart("start is a place")
        if not is_any_place(end):
            raise BadEnd("end is a place")
        if not is_stairs(stairs):
            raise BadStairs("stairs is a staircase")
        if not is_body(least):
            raise BadLeast("least is a body")
        if not is_number_pair(by):
            raise BadBy("by is a pair of numbers")
        self.start = start
        self.end = end
        self.stairs = stairs
        if stairs == ():
            self.least = (1, 1)
            self.by = (0, 0)
        else:
            self.least = (grown(least[0], by[0], 1), grown(least[1], by[1], 1))
            self.by = (plain_by(stairs, least, by, 0), plain_by(stairs, least, by, 1))

    def __eq__(self, other):
        if not isinstance(other, Form) or self.start != other.start or self.end != other.end:
            return False
        return self.stairs == other.stairs and self.least == other.least and self.by == other.by

    def __mul__(self, other):
        if not isinstance(other, Form):
            raise BadForm("what is done next is no Form")
        return followed(self, other)

    def __rmul__(self, other):
        raise BadForm("what is done first is no Form")


def body_behind(form, body):
    """What a body that is surely held becomes."""
    return (grown(form.least[0], form.by[0], body[0]), grown(form.least[1], form.by[1], body[1]))


def followed(one, other):
    """The Form that does what one, then what other does."""
    if one.end != other.start:
        raise NotJoined("the second form does not begin where the first one ends")
    return Form(
        one.start, other.end, both(one.stairs, moved(other.stairs, one.least, one.by)),
        body_behind(other, one.least), (one.by[0] + other.by[0], one.by[1] + other.by[1]))


def still_at(place, stairs):
    """still, for values that are surely such."""
    return Form(place, place, stairs, (1, 1), (0, 0))


def size_behind(least, by, size, times):
    """What a size becomes in so many rounds."""
    if times == 0:
        return size
    return max(least + max(0, by) * (times - 1), size + by * times)


def behind_rounds(form, body, times):
    """What a body becomes in so many rounds."""
    return (
        size_behind(form.least[0], form.by[0], body[0], times),
        size_behind(form.least[1], form.by[1], body[1], times),
    )


def size_ahead(least, by, size, times):
    """The least size that becomes the given size or more in so many rounds."""
    if times == 0:
        return size
    if least + max(0, by) * (times - 1) >= size:
        return 1
    return size - by * times


def notch_ahead(form, notch, times):
    """The least body that is at least the notch behind so many rounds."""
    return (
        size_ahead(form.least[0], form.by[0], notch[0], times),
        size_ahead(form.least[1], form.by[1], notch[1], times),
    )


def rounds_to_least(least, by, size):
    """The first round behind which all sizes have come to the given size, by being above 0."""
    return 0 if size == 1 else max(1, (size - least + by - 1) // by + 1)


def last_of(form, notch, last):
    """The last round, at most the given one, that can tell more of the notch than those ahead of it."""
    if max(form.by) <= 0:
        return min(1, last)
    if min(form.by) >= 0:
        return last
    rising = 0 if form.by[0] > 0 else 1
    # The other size falls: either all come to the notch, or ever greater sizes are asked for.
    if form.least[1 - rising] >= notch[1 - rising]:
        return last
    return min(last, rounds_to_least(form.least[rising], form.by[rising], notch[rising]))


def telling_rounds(form, notch, last, known):
    """The list of the rounds, other than the first and the last, whose demand at least none of the known bodies is."""
    rising = 0 if form.by[0] > 0 else 1
    falling = 1 - rising
    spans = []
    for body in known:
        first = -((notch[falling] - body[falling]) // -form.by[falling])
        final = (notch[rising] - body[rising]) // form.by[rising]
        if first <= final:
            spans.append((first, final))
    found = []
    here = 1
    for first, final in sorted(spans):
        found.extend(list(range(here, min(first, last))))
        here = max(here, final + 1)
    return found + list(range(here, last))


def is_long(form, notch):
    """Whether each round asks for sizes that no other round bars."""
    if min(form.by) >= 0 or max(form.by) <= 0:
        return False
    falling = 0 if form.by[0] < 0 else 1
    return form.least[falling] < notch[falling]


def stairs_for_rounds(form, times):
    """The staircase of the bodies that can do one round, or more of them, one behind the other."""
    notches = notches_of(form.stairs)
    lasts = {notch: last_of(form, notch, times - 1) for notch in notches}
    known = [notch_ahead(form, notch, k) for notch in notches for k in (0, lasts[notch])]
    more = [
        notch_ahead(form, notch, k) for notch in notches if is_long(form, notch)
        for k in telling_rounds(form, notch, lasts[notch], known)
    ]
    return barred(known + more)


def far_round(form):
    """A number of rounds behind which further ones bar no more bodies."""
    return 2 + max([max(notch) for notch in notches_of(form.stairs)], default=0)


def rounds_at(least, by, size, goal):
    """The first and the last round, from 1 on, behind which a size has come to the goal; None for no last one."""
    if by > 0:
        start = max(least - by, size)
        return (max(1, -((start - goal) // by)), None)
    if least >= goal or by == 0 and size >= goal:
        return (1, None)
    return (1, (size - goal) // -by if by < 0 else 0)


def barred_round(form, body, notch):
    """The first round, from 1 on, behind which the body is at least the notch; None if there is none."""
    wide = rounds_at(form.least[0], form.by[0], body[0], notch[0])
    high = rounds_at(form.least[1], form.by[1], body[1], notch[1])
    first = max(wide[0], high[0])
    lasts = [last for last in (wide[1], high[1]) if last is not None]
    return first if first <= min(lasts, default=first) else None


def rounds_of(form, body):
    """rounds, for values that are surely such."""
    if not has(form.stairs, body):
        return 0
    found = [barred_round(form, body, notch) for notch in notches_of(form.stairs)]
    return min([many for many in found if many is not None], default=None)


def check_form(form):
    if not isinstance(form, Form):
        raise BadForm("form is a Form")


def check_any_place(place):
    if not is_any_place(place):
        raise BadPlace("a place is a pair of a number from 0 on and a spot")


def check_round(form):
    if form.start != form.end:
        raise NotRound("the form does not end where it starts")


def end_size(form, body):
    """The body at the end; None if it is not held."""
    check_form(form)
    check_body(body)
    return body_behind(form, body) if has(form.stairs, body) else None


def still(place, stairs):
    """The Form by which the bodies that stairs holds stay as they are."""
    check_any_place(place)
    check_stairs(stairs)
    return still_at(place, stairs)


def load_at(place, stairs, by):
    """load_form, for values that are surely such."""
    return Form(place, place, both(stairs, moved(stairs, (1, 1), by)), (1, 1), by)


def load_form(place, stairs, by):
    """The Form by which bodies become greater or less, for those that stairs holds before and after."""
    check_any_place(place)
    check_stairs(stairs)
    check_by(by)
    return load_at(place, stairs, by)


def telling_sizes(one, other, index):
    """The ascending list of the sizes at which two forms may begin to be unlike."""
    sizes = [1] + [corner[index] + 1 for corner in one.stairs + other.stairs if corner[index] is not None]
    sizes.extend([
        form.least[index] - second.by[index] for form in (one, other) for second in (one, other)
    ])
    near = sorted(set([size + k for size in sizes for k in (-1, 0, 1)]))
    return [size for size in near if size >= 1]


def is_parted(one, other, body):
    """Whether just one of the forms holds the body, or both do and end unlike."""
    if has(one.stairs, body) != has(other.stairs, body):
        return True
    if not has(one.stairs, body):
        return False
    return one.end != other.end or body_behind(one, body) != body_behind(other, body)


def form_parting(one, other):
    """The first body that only one of the forms holds, or that ends unlike; None if there is none."""
    check_form(one)
    check_form(other)
    heights = telling_sizes(one, other, 1)
    for width in telling_sizes(one, other, 0):
        for height in heights:
            if is_parted(one, other, (width, height)):
                return (width, height)
    return None


def least_loads(form, body):
    """The ascending list of the least pairs with which the body is not held any more."""
    check_form(form)
    check_body(body)
    loads = [(max(0, notch[0] - body[0]), max(0, notch[1] - body[1])) for notch in notches_of(form.stairs)]
    least = []
    for load in sorted(loads):
        if not least or load[1] < least[-1][1]:
            least.append(load)
    return least


def repeated(form, times):
    """The Form of so many rounds, one behind the other."""
    check_form(form)
    if not is_number(times) or times < 0:
        raise BadTimes("times is a number from 0 on")
    check_round(form)
    return repeated_of(form, times)


def repeated_of(form, times):
    """repeated, for values that are surely such."""
    if times == 0:
        return still_at(form.start, ALL)
    least = behind_rounds(form, (1, 1), times)
    by = (times * form.by[0], times * form.by[1])
    return Form(form.start, form.end, stairs_for_rounds(form, times), least, by)


def rounds(form, body):
    """The greatest number of rounds that the body can do; None if it can go on for ever."""
    check_form(form)
    check_body(body)
    check_round(form)
    return rounds_of(form, body)


def endless(form):
    """The staircase of the bodies that can go on for ever."""
    check_form(form)
    check_round(form)
    return stairs_for_rounds(form, far_round(form))


def rest(form, body):
    """The body that it is in the end if it goes on for ever and its sizes come to stay; None otherwise."""
    check_form(form)
    check_body(body)
    check_round(form)
    if rounds_of(form, body) is not None or max(form.by) > 0:
        return None
    # What falls comes to the least size, what neither falls nor grows stays behind the first round.
    return tuple([
        max(least, size) if by == 0 else least for least, by, size in zip(form.least, form.by, body)
    ])
