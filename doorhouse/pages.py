"""Pages: what a plain house answers, and by which rules (DOC.md, 5.3 and 5.4)."""

from doorhouse.errors import NoSite
from doorhouse.marks import show_marks
from doorhouse.rights import ALL, check_asker, check_things, name_of, things_seen
from doorhouse.routes import GET, check_path, find_route
from doorhouse.sites import is_site
from doorhouse.store import NUMBER_NAME, row_named
from doorhouse.templates import read_template, tree_of

ASKER_NAME = "asker"


def check_site(site):
    """Refuse what is no site."""
    if not is_site(site):
        raise NoSite("this is no site")


def check_question(site, asker, things, path):
    """Refuse a site, an asker, things or a path that are none."""
    check_site(site)
    check_asker(asker)
    check_things(site["kinds"], things)
    check_path(path)


def rows_taken(ask, values, rows):
    """Tell those of the rows that things_seen told which an ask takes; None where it asks for one that isn't there."""
    name, kind, which = ask
    of_kind = [row for row in rows if row[0] == kind]
    if which == ALL:
        return of_kind
    wanted = [row for row in of_kind if row[1] == dict(values)[which]]
    return wanted if wanted else None


def taken_by(site, asker, things, path):
    """Tell the tuple (page, route's values, the rows that each of the asks takes), None where there is no page."""
    route = find_route(site["routes"], GET, path)
    if route is None:
        return None
    name, values = route
    page = row_named(site["pages"], name)
    rows = things_seen(site["kinds"], site["rules"], asker, things)
    taken = [rows_taken(ask, values, rows) for ask in page[2]]
    return None if None in taken else (page, values, taken)


def data_of(row):
    """Tell the data of a thing that is seen."""
    kind, number, fields = row
    data = {field: value for field, value, place in fields}
    data[NUMBER_NAME] = number
    return data


def plain_page(site, asker, things, path):
    """Tell what page_of does, of what is known to be right."""
    told = taken_by(site, asker, things, path)
    if told is None:
        return None
    (route, template, asks), values, taken = told
    data = dict(values)
    data[ASKER_NAME] = name_of(asker)
    for (name, kind, which), rows in zip(asks, taken):
        data[name] = tuple([data_of(row) for row in rows])
    # Not by filled, which refuses data with a number that is no value: things may have greater ones.
    return show_marks(tree_of(read_template(template), data))


def page_of(site, asker, things, path):
    """Tell the page that a plain house answers with, None where it has none."""
    check_question(site, asker, things, path)
    return plain_page(site, asker, things, path)


def reasons_of(site, asker, things, path):
    """Tell the rising tuple of tuples (kind, number, field, place) of what the page's asks take, None without one."""
    check_question(site, asker, things, path)
    told = taken_by(site, asker, things, path)
    if told is None:
        return None
    reasons = {}
    for rows in told[2]:
        for kind, number, fields in rows:
            for field, value, place in fields:
                reasons[(kind, number, field, place)] = True
    return tuple(sorted(list(reasons)))
