"""Books: forms that may be done one behind the other, in any order (point 104)."""

from gapstairs.bodies import check_body, encloses, is_body
from gapstairs.checks import has_just_keys, is_index, is_list
from gapstairs.errors import BadBook, BadForms, BadRow, NotRising
from gapstairs.forms import Form, body_behind, check_any_place, followed, is_any_place, still_at
from gapstairs.stairs import ALL, both, either, has, is_stairs, moved, notches_of

MOST_FORMS = 20


class Book:
    """Forms by which bodies may go from place to place."""

    def __init__(self, forms):
        if not is_list(forms) or not 1 <= len(forms) <= MOST_FORMS:
            raise BadForms("forms are a list of one to twenty Forms")
        if not all([isinstance(form, Form) for form in forms]):
            raise BadForms("forms are a list of one to twenty Forms")
        self.forms = tuple(forms)

    def __eq__(self, other):
        return isinstance(other, Book) and self.forms == other.forms


def check_book(book):
    if not isinstance(book, Book):
        raise BadBook("book is a Book")


def check_book_at(book, start):
    """Refuse the first two parameters of many functions, in their order."""
    check_book(book)
    check_any_place(start)


def end_of_row(book, start, thing):
    """The place to which any value leads as a row from start; None if it is none."""
    if not is_list(thing):
        return None
    here = start
    for number in thing:
        if not is_index(number, len(book.forms)) or book.forms[number].start != here:
            return None
        here = book.forms[number].end
    return here


def form_along(book, start, row):
    """row_form, for values that are surely such."""
    form = still_at(start, ALL)
    for number in row:
        form = followed(form, book.forms[number])
    return form


def is_at_most_some(bodies, body):
    """Whether some of the bodies is in no item above the body."""
    return any([encloses(body, other) for other in bodies])


def all_reached(book, start, body):
    """The dict from each place and body that is met, to the pair of that ahead of it and of the number of the form."""
    came = {(start, body): None}
    least = {start: [body]}
    waiting = [(start, body)]
    k = 0
    while k < len(waiting):
        here, size = waiting[k]
        k += 1
        # What a lesser body does as well need not be looked at any more.
        if size not in least[here]:
            continue
        for number, form in enumerate(book.forms):
            if form.start != here or not has(form.stairs, size):
                continue
            there = (form.end, body_behind(form, size))
            known = least.setdefault(form.end, [])
            if is_at_most_some(known, there[1]):
                continue
            least[form.end] = [other for other in known if not encloses(other, there[1])] + [there[1]]
            came[there] = ((here, size), number)
            waiting.append(there)
    return came


def least_among(came):
    """The ascending dict from each place to the ascending list of the least bodies that are met there."""
    met_at = {}
    for place, body in came:
        met_at.setdefault(place, []).append(body)
    found = {}
    for place in sorted(list(met_at)):
        bodies = sorted(met_at[place])
        found[place] = [body for k, body in enumerate(bodies) if not is_at_most_some(bodies[:k], body)]
    return found


def row_back(came, place, body):
    """The row by which the body is met at the place."""
    row = []
    ahead = came[(place, body)]
    while ahead is not None:
        row.append(ahead[1])
        ahead = came[ahead[0]]
    return list(reversed(row))


def is_body_list(thing):
    """Whether any value is a list of one or more different bodies."""
    if not is_list(thing) or len(thing) == 0 or not all([is_body(body) for body in thing]):
        return False
    return len(set(thing)) == len(thing)


def leads_within(table, form):
    """Whether for each body of the table that the form holds, the table has one at most what it becomes."""
    ends = table.get(form.end, [])
    return all([
        is_at_most_some(ends, body_behind(form, body))
        for body in table.get(form.start, []) if has(form.stairs, body)
    ])


def is_closed_of(book, start, body, thing):
    """is_closed_table, for values other than thing that are surely such."""
    if not isinstance(thing, dict) or not all([is_any_place(place) for place in thing]):
        return False
    if not all([is_body_list(bodies) for bodies in list(thing.values())]):
        return False
    if not is_at_most_some(thing.get(start, []), body):
        return False
    return all([leads_within(thing, form) for form in book.forms])


def able_of(book, one, other):
    """able, for values that are surely such, the book being a rising one."""
    # For each place the bodies that come from there to other: who comes back is no less, and may go on at once.
    found = {other: ALL}
    changed = True
    while changed:
        changed = False
        for form in book.forms:
            ahead = both(form.stairs, moved(found.get(form.end, ()), form.least, form.by))
            more = either(found.get(form.start, ()), ahead)
            if more != found.get(form.start, ()):
                found[form.start] = more
                changed = True
    return found.get(one, ())


def far_size(book):
    """A size above all items of corners: what holds it in a book of rising forms holds all greater ones, too."""
    items = [item for form in book.forms for corner in form.stairs for item in corner if item is not None]
    return max(items, default=0) + 1


def body_for(book, corner):
    """A body for which just the rows that hold the corner can be done."""
    far = far_size(book)
    return (far if corner[0] is None else corner[0], far if corner[1] is None else corner[1])


def row_for(book, one, other, corner):
    """A row from one to other that holds a corner of able."""
    came = all_reached(book, one, body_for(book, corner))
    ends = [body for place, body in came if place == other]
    return row_back(came, other, ends[0])


def check_book_ends(book, one, other):
    check_book_at(book, one)
    check_any_place(other)


def check_rising(book):
    if any([min(form.by) < 0 for form in book.forms]):
        raise NotRising("some form has an item of by below 0")


def row_form(book, start, row):
    """The Form of the row: what its forms do, one behind the other."""
    check_book_at(book, start)
    if end_of_row(book, start, row) is None:
        raise BadRow("a row is a list of numbers of forms, each of which begins where the one ahead ends")
    return form_along(book, start, row)


def reached(book, start, body):
    """The dict from each place to which some row leads the body, to the least bodies that it can be there."""
    check_book_at(book, start)
    check_body(body)
    return least_among(all_reached(book, start, body))


def rows_reached(book, start, body):
    """The dict from the pairs (place, body) of all that is reached, to rows that do so."""
    check_book_at(book, start)
    check_body(body)
    came = all_reached(book, start, body)
    least = least_among(came)
    return {(place, end): row_back(came, place, end) for place in least for end in least[place]}


def is_closed_table(book, start, body, thing):
    """Whether any value is a closed table for the body at start."""
    check_book_at(book, start)
    check_body(body)
    return is_closed_of(book, start, body, thing)


def able(book, one, other):
    """The staircase of all bodies that some row leads from one to other."""
    check_book_ends(book, one, other)
    check_rising(book)
    return able_of(book, one, other)


def is_able_row(book, one, other, corner, thing):
    """Whether any value is a row from one to other that holds the corner."""
    return end_of_row(book, one, thing) == other and has(form_along(book, one, thing).stairs, corner)


def is_able_table(book, one, other, body, thing):
    """Whether any value is a closed table for the body at one without other."""
    return is_closed_of(book, one, body, thing) and other not in thing


def are_able_papers(book, one, other, stairs, rows, tables):
    """Whether rows and tables show that just the bodies that stairs holds come from one to other."""
    check_book_ends(book, one, other)
    if not is_stairs(stairs) or not has_just_keys(rows, stairs):
        return False
    notches = notches_of(stairs)
    if not has_just_keys(tables, notches):
        return False
    if not all([is_able_row(book, one, other, corner, rows[corner]) for corner in stairs]):
        return False
    return all([is_able_table(book, one, other, notch, tables[notch]) for notch in notches])


def able_papers(book, one, other):
    """A pair of rows for the corners of able and of closed tables for its notches."""
    check_book_ends(book, one, other)
    check_rising(book)
    stairs = able_of(book, one, other)
    rows = {corner: row_for(book, one, other, corner) for corner in stairs}
    tables = {notch: least_among(all_reached(book, one, notch)) for notch in notches_of(stairs)}
    return (rows, tables)
