"""Menus of deeds: least rows of them, and papers that show that there is none."""

from paintershouse.errors import Missing, NotAllowed, TooLarge
from paintershouse.forms import check_plain, deed_form, form_behind, form_of, plain_form

MAX_MENU = 6
MAX_STEPS = 5
MAX_FORMS = 200


def _check_menu(sides, menu):
    if not 1 <= len(menu) <= MAX_MENU:
        raise NotAllowed("not a number of deeds for a menu")
    for deed in menu:
        check_plain(sides, (deed,))


def _check_most(most):
    if not 0 <= most <= MAX_STEPS:
        raise NotAllowed("not a number of deeds at most")


def _next_rows(rows, forms, known):
    """Returns a dict of the first rows with one deed more than some rows have, for each form that is not known."""
    longer = {}
    for form in rows:
        for k, later in enumerate(forms):
            made = form_behind(form, later)
            if made not in known and made not in longer:
                longer[made] = rows[form] + (k,)
    return longer


def least_of_menu(sides, menu, deeds, most):
    """Returns the least row of a menu for a plain row."""
    wanted = form_of(sides, deeds)
    _check_menu(sides, menu)
    _check_most(most)
    forms = [deed_form(sides, deed) for deed in menu]
    # For each form that comes up its first row, those with as many deeds in order.
    rows = {plain_form(sides): ()}
    known = {form: True for form in rows}
    for _ in range(most):
        if wanted in rows:
            break
        if len(known) > MAX_FORMS:
            raise TooLarge("too many forms")
        rows = _next_rows(rows, forms, known)
        for form in rows:
            known[form] = True
    if wanted in rows:
        return rows[wanted]
    if len(known) > MAX_FORMS:
        raise TooLarge("too many forms")
    raise Missing("no row of the menu with so few deeds")


def layers_paper(sides, menu, most):
    """Returns a layers paper for rows of at most so many deeds."""
    check_plain(sides, ())
    _check_menu(sides, menu)
    _check_most(most)
    forms = [deed_form(sides, deed) for deed in menu]
    rows = {plain_form(sides): ()}
    known = {form: True for form in rows}
    paper = [((),)]
    for _ in range(most):
        rows = _next_rows(rows, forms, known)
        for form in rows:
            known[form] = True
        if len(known) > MAX_FORMS:
            raise TooLarge("too many forms")
        paper.append(tuple([rows[form] for form in rows]))
    return tuple(paper)


def judge_layers(sides, menu, deeds, paper):
    """Returns True if a layers paper shows that no row of a menu has the form of a plain row, otherwise False."""
    wanted = form_of(sides, deeds)
    _check_menu(sides, menu)
    if not paper or paper[0] != ((),) or not _have_lengths(menu, paper):
        return False
    forms = [deed_form(sides, deed) for deed in menu]
    layers = [_forms_of_rows(sides, rows, forms) for rows in paper]
    known = {form: True for form in layers[0]}
    for rows, later in zip(layers, layers[1:]):
        for form in later:
            known[form] = True
        for form in rows:
            if any([form_behind(form, step) not in known for step in forms]):
                return False
    return wanted not in known


def _have_lengths(menu, paper):
    """Tells whether each row of a paper is one of the menu, with as many deeds as its place tells."""
    for many, rows in enumerate(paper):
        for row in rows:
            if len(row) != many or not all([0 <= k < len(menu) for k in row]):
                return False
    return True


def _forms_of_rows(sides, rows, forms):
    """Returns a dict of the forms of rows of indexes."""
    found = {}
    for row in rows:
        form = plain_form(sides)
        for k in row:
            form = form_behind(form, forms[k])
        found[form] = True
    return found
