"""Forms: what a post's values are wrong in, what right it needs, and what it does (DOC.md, 6.4)."""

from doorhouse.rights import name_of
from doorhouse.routes import GET, path_of
from doorhouse.sites import WORK_DEED, holes_of_route, routes_of
from doorhouse.store import ADD, CHANGE, NUMBER, REMOVE, is_of_sort, row_named


def is_right_value(field, values):
    """Tell whether values have the one of this form's field, of its sort and size."""
    name, sort, least, most = field
    if name not in values or not is_of_sort(values[name], sort):
        return False
    size = values[name] if sort == NUMBER else len(values[name])
    return least <= size <= most


def wrong_name(fields, values):
    """Tell the name of the first of the form's fields that is wrong, "" of other names, None where all is right."""
    for field in fields:
        if not is_right_value(field, values):
            return field[0]
    return "" if len(values) > len(fields) else None


def right_needed(site, deed):
    """Tell the tuple (deed, kind, field) that a form's deed has to be let by."""
    if deed[0] == CHANGE:
        return (CHANGE, deed[1], deed[3])
    if deed[0] == WORK_DEED:
        name, kind, steps = row_named(site["works"], deed[1])
        return (CHANGE, kind, steps[0][0])
    return (deed[0], deed[1], "")


def number_meant(deed, route_values):
    """Tell the number that stands at the deed's hole, None of an add, which has none."""
    return None if deed[0] == ADD else dict(route_values)[deed[2]]


def owner_of(kind, number, things):
    """Tell the owner of the thing of this kind and number, None where it isn't there."""
    for thing in things:
        if thing[:2] == (kind, number):
            return thing[2]
    return None


def store_deed(form, asker, number, values):
    """Tell the store's deed that a form does, of all but a work."""
    route, fields, deed, following = form
    given = tuple([values[field[0]] for field in fields])
    if deed[0] == ADD:
        return (ADD, deed[1], name_of(asker), given)
    if deed[0] == REMOVE:
        return (REMOVE, deed[1], number)
    return (CHANGE, deed[1], number, deed[3], given[0])


def path_behind(site, form, route_values):
    """Tell the path of the form's next route, with these values of its own route."""
    value_by_name = dict(route_values)
    following = row_named(routes_of(site, GET), form[3])
    values = [(name, value_by_name[name]) for sort, name in holes_of_route(following)]
    return path_of(site["routes"], form[3], tuple(values))
