"""Books: forms that may be done one behind the other, in any order (point 104)."""

from gapstairs.bodies import check_body, encloses, is_body
from gapstairs.checks import has_just_keys, is_index, is_list
from gapstairs.errors import BadBook, BadForms, BadRow, NotRising
from gapstairs.forms import (
    Form, behind_rounds, body_behind, check_any_place, followed, is_any_place, repeated_of, still_at,
)
from gapstairs.stairs import ALL, both, either, has, is_stairs, moved, notches_of

MOST_FORMS = 20
# So many bodies are looked at one by one, which finds short rows; then long ways are gone at once.
MOST_SINGLY = 2000


class Book:
    """Forms by which bodies may go from place to place."""

    def __init__(self, forms):
        if not is_list(forms) or not 1 <= len(forms) <= MOST_FORMS:
            raise BadForms("forms are a list of one to twenty Forms")
        if not all([isinstance(form, Form) for form in forms]):
            raise BadForms("forms are a list of one to twenty Forms")
        self.forms = tuple(forms)

    def __eq__(self, other):
        return isinstance(other, Book) and self.forms == other.forms


def check_book(book):
    if not isinstance(book, Book):
        raise BadBook("book is a Book")


def check_book_at(book, start):
    """Refuse the first two parameters of many functions, in their order."""
    check_book(book)
    check_any_place(start)


def end_of_row(book, start, thing):
    """The place to which any value leads as a row from start; None if it is none."""
    if not is_list(thing):
        return None
    here = start
    for number in thing:
        if not is_index(number, len(book.forms)) or book.forms[number].start != here:
            return None
        here = book.forms[number].end
    return here


def form_along(book, start, row):
    """row_form, for values that are surely such."""
    form = still_at(start, ALL)
    for number in row:
        form = followed(form, book.forms[number])
    return form


def is_at_most_some(bodies, body):
    """Whether some of the bodies is in no item above the body."""
    return any([encloses(body, other) for other in bodies])


class Step:
    """How a body is reached: from what, by a form, or by doing again and again what led there from first on."""

    def __init__(self, ahead, number, first, times):
        self.ahead = ahead
        self.number = number
        self.first = first
        self.times = times


class Reach:
    """The Steps to all places and bodies that are met, the least bodies of each place, and what is to be looked at."""

    def __init__(self, start, body):
        self.came = {(start, body): None}
        self.least = {start: [body]}
        self.waiting = [(start, body)]


def take_in(reach, place, body, step):
    """Take a body at a place as reached; whether it is no other one, or a greater one than one that is known."""
    known = reach.least.setdefault(place, [])
    if is_at_most_some(known, body):
        return False
    reach.least[place] = [other for other in known if not encloses(other, body)] + [body]
    reach.came[(place, body)] = step
    reach.waiting.append((place, body))
    return True


def greater_ahead(came, place, body):
    """The nearest place and body on the way to these, at the same place and in no item less; None if there is none."""
    step = came[(place, body)]
    while step is not None:
        if step.ahead[0] == place and encloses(step.ahead[1], body):
            return step.ahead
        step = came[step.ahead]
    return None


def form_between(book, came, first, last):
    """The Form of what led from the first to the last place and body."""
    form = still_at(last[0], ALL)
    here = last
    while here != first:
        step = came[here]
        if step.times == 0:
            part = book.forms[step.number]
        else:
            part = repeated_of(form_between(book, came, step.first, step.ahead), step.times)
        form = followed(part, form)
        here = step.ahead
    return form


def rounds_to_rest(form, body):
    """How many rounds, none of which makes it greater, make the body as small as it comes."""
    falls = [-((size - least) // by) for least, by, size in zip(form.least, form.by, body) if by < 0]
    return max(falls, default=0)


def take_rest(book, reach, place, body):
    """Take in what becomes of a body that is back at a place, and less, if it goes the same round for ever."""
    first = greater_ahead(reach.came, place, body)
    if first is None:
        return
    form = form_between(book, reach.came, first, (place, body))
    times = rounds_to_rest(form, body)
    take_in(reach, place, behind_rounds(form, body, times), Step((place, body), None, first, times))


def all_reached(book, start, body):
    """The dict from each place and body that is met, to the Step by which it is."""
    reach = Reach(start, body)
    k = 0
    while k < len(reach.waiting):
        here, size = reach.waiting[k]
        k += 1
        # What a lesser body does as well need not be looked at any more.
        if size not in reach.least[here]:
            continue
        for number, form in enumerate(book.forms):
            if form.start == here and has(form.stairs, size):
                end = body_behind(form, size)
                if take_in(reach, form.end, end, Step((here, size), number, None, 0)) and k > MOST_SINGLY:
                    take_rest(book, reach, form.end, end)
    return reach.came


def least_among(came):
    """The ascending dict from each place to the ascending list of the least bodies that are met there."""
    met_at = {}
    for place, body in came:
        met_at.setdefault(place, []).append(body)
    found = {}
    for place in sorted(list(met_at)):
        bodies = sorted(met_at[place])
        found[place] = [body for k, body in enumerate(bodies) if not is_at_most_some(bodies[:k], body)]
    return found


def row_between(came, first, last):
    """The row that led from the first to the last place and body."""
    parts = []
    here = last
    while here != first:
        step = came[here]
        parts.append([step.number] if step.times == 0 else row_between(came, step.first, step.ahead) * step.times)
        here = step.ahead
    return [number for part in reversed(parts) for number in part]


def is_body_list(thing):
    """Whether any value is a list of one or more different bodies."""
    if not is_list(thing) or len(thing) == 0 or not all([is_body(body) for body in thing]):
        return False
    return len(set(thing)) == len(thing)


def leads_within(table, form):
    """Whether for each body of the table that the form holds, the table has one at most what it becomes."""
    ends = table.get(form.end, [])
    return all([
        is_at_most_some(ends, body_behind(form, body))
        for body in table.get(form.start, []) if has(form.stairs, body)
    ])


def is_closed_of(book, start, body, thing):
    """is_closed_table, for values other than thing that are surely such."""
    if not isinstance(thing, dict) or not all([is_any_place(place) for place in thing]):
        return False
    if not all([is_body_list(bodies) for bodies in list(thing.values())]):
        return False
    if not is_at_most_some(thing.get(start, []), body):
        return False
    return all([leads_within(thing, form) for form in book.forms])


def able_of(book, one, other):
    """able, for values that are surely such, the book being a rising one."""
    # For each place the bodies that come from there to other: who comes back is no less, and may go on at once.
    found = {other: ALL}
    changed = True
    while changed:
        changed = False
        for form in book.forms:
            ahead = both(form.stairs, moved(found.get(form.end, ()), form.least, form.by))
            more = either(found.get(form.start, ()), ahead)
            if more != found.get(form.start, ()):
                found[form.start] = more
                changed = True
    return found.get(one, ())


def far_size(book):
    """A size above all items of corners: what holds it in a book of rising forms holds all greater ones, too."""
    items = [item for form in book.forms for corner in form.stairs for item in corner if item is not None]
    return max(items, default=0) + 1


def body_for(book, corner):
    """A body for which just the rows that hold the corner can be done."""
    far = far_size(book)
    return (far if corner[0] is None else corner[0], far if corner[1] is None else corner[1])


def row_for(book, one, other, corner):
    """A row from one to other that holds a corner of able."""
    start = (one, body_for(book, corner))
    came = all_reached(book, start[0], start[1])
    ends = [body for place, body in came if place == other]
    return row_between(came, start, (other, ends[0]))


def check_book_ends(book, one, other):
    check_book_at(book, one)
    check_any_place(other)


def check_rising(book):
    if any([min(form.by) < 0 for form in book.forms]):
        raise NotRising("some form has an item of by below 0")


def row_form(book, start, row):
    """The Form of the row: what its forms do, one behind the other."""
    check_book_at(book, start)
    if end_of_row(book, start, row) is None:
        raise BadRow("a row is a list of numbers of forms, each of which begins where the one ahead ends")
    return form_along(book, start, row)


def reached(book, start, body):
    """The dict from each place to which some row leads the body, to the least bodies that it can be there."""
    check_book_at(book, start)
    check_body(body)
    return least_among(all_reached(book, start, body))


def rows_reached(book, start, body):
    """The dict from the pairs (place, body) of all that is reached, to rows that do so."""
    check_book_at(book, start)
    check_body(body)
    came = all_reached(book, start, body)
    least = least_among(came)
    return {
        (place, end): row_between(came, (start, body), (place, end)) for place in least for end in least[place]
    }


def is_closed_table(book, start, body, thing):
    """Whether any value is a closed table for the body at start."""
    check_book_at(book, start)
    check_body(body)
    return is_closed_of(book, start, body, thing)


def able(book, one, other):
    """The staircase of all bodies that some row leads from one to other."""
    check_book_ends(book, one, other)
    check_rising(book)
    return able_of(book, one, other)


def is_able_row(book, one, other, corner, thing):
    """Whether any value is a row from one to other that holds the corner."""
    return end_of_row(book, one, thing) == other and has(form_along(book, one, thing).stairs, corner)


def is_able_table(book, one, other, body, thing):
    """Whether any value is a closed table for the body at one without other."""
    return is_closed_of(book, one, body, thing) and other not in thing


def are_able_papers(book, one, other, stairs, rows, tables):
    """Whether rows and tables show that just the bodies that stairs holds come from one to other."""
    check_book_ends(book, one, other)
    if not is_stairs(stairs) or not has_just_keys(rows, stairs):
        return False
    notches = notches_of(stairs)
    if not has_just_keys(tables, notches):
        return False
    if not all([is_able_row(book, one, other, corner, rows[corner]) for corner in stairs]):
        return False
    return all([is_able_table(book, one, other, notch, tables[notch]) for notch in notches])


def able_papers(book, one, other):
    """A pair of rows for the corners of able and of closed tables for its notches."""
    check_book_ends(book, one, other)
    check_rising(book)
    stairs = able_of(book, one, other)
    rows = {corner: row_for(book, one, other, corner) for corner in stairs}
    tables = {notch: least_among(all_reached(book, one, notch)) for notch in notches_of(stairs)}
    return (rows, tables)
