"""Sites: what a site is, and the first of its names that is wrong (DOC.md, 5.1 and 5.2)."""

from doorhouse.rights import ALL, are_people, are_rules
from doorhouse.routes import GET, NUMBER_HOLE, POST, are_routes, holes_in, parts_of
from doorhouse.store import ADD, CHANGE, NUMBER, REMOVE, TEXT, are_kinds, is_step, row_named
from doorhouse.templates import is_template
from doorhouse.values import are_named_rows, is_name, is_number_value

WORK_DEED = "work"

MOST_ASKS = 3
MOST_FORM_FIELDS = 5
MOST_WORKS = 4
MOST_STEPS = 5

# What wrong_in tells of what has other names than a site.
NO_SITE = "site"


def routes_of(site, verb):
    """Tell the list of the routes of this verb."""
    return [route for route in site["routes"] if route[1] == verb]


def holes_of_route(route):
    """Tell the list of the holes, tuples (sort, NAME), of a route's pattern."""
    return holes_in(parts_of(route[2]))


def is_number_hole(route, thing):
    """Tell whether it is the name of a `:n` of a route's pattern."""
    return thing in [name for sort, name in holes_of_route(route) if sort == NUMBER_HOLE]


def are_rows_of_routes(site, verb, thing, is_row):
    """Tell whether it is a tuple with, for each route of this verb, in their order, a row that is one by is_row."""
    routes = routes_of(site, verb)
    if not isinstance(thing, tuple) or len(thing) != len(routes):
        return False
    return all([is_row(site, route, row) for route, row in zip(routes, thing)])


def are_right_routes(site):
    """Tell whether the site's routes are some."""
    return are_routes(site["routes"])


def are_right_kinds(site):
    """Tell whether the site's kinds are some."""
    return are_kinds(site["kinds"])


def are_right_rules(site):
    """Tell whether the site's rules are some, of its kinds."""
    if not are_rules(site["rules"]):
        return False
    return all([row_named(site["kinds"], kind) is not None for who, deed, kind, field in site["rules"]])


def are_right_people(site):
    """Tell whether the site's people are some."""
    return are_people(site["people"])


def is_work_step(fields, thing):
    """Tell whether it is a tuple (field, by) of one of these fields, a number's."""
    if not isinstance(thing, tuple) or len(thing) != 2:
        return False
    field = row_named(fields, thing[0])
    return field is not None and field[1] == NUMBER and is_step(thing[1])


def is_work(kinds, thing):
    """Tell whether it is a tuple (name, kind, steps)."""
    if not isinstance(thing, tuple) or len(thing) != 3:
        return False
    name, kind_name, steps = thing
    kind = row_named(kinds, kind_name)
    if not is_name(name) or kind is None or not isinstance(steps, tuple):
        return False
    return 1 <= len(steps) <= MOST_STEPS and all([is_work_step(kind[1], step) for step in steps])


def are_right_works(site):
    """Tell whether the site's works are some, of its kinds."""
    return are_named_rows(site["works"], 0, MOST_WORKS, lambda thing: is_work(site["kinds"], thing))


def is_ask(site, route, thing):
    """Tell whether it is a tuple (name, kind, which) for a page of this route."""
    if not isinstance(thing, tuple) or len(thing) != 3:
        return False
    name, kind, which = thing
    if not is_name(name) or row_named(site["kinds"], kind) is None:
        return False
    return which == ALL or is_number_hole(route, which)


def is_page(site, route, thing):
    """Tell whether it is a tuple (route, template, asks) of this route."""
    if not isinstance(thing, tuple) or len(thing) != 3:
        return False
    name, template, asks = thing
    if name != route[0] or not is_template(template):
        return False
    return are_named_rows(asks, 0, MOST_ASKS, lambda ask: is_ask(site, route, ask))


def are_right_pages(site):
    """Tell whether the site's pages are some, of its routes and kinds."""
    return are_rows_of_routes(site, GET, site["pages"], is_page)


def is_form_field(thing):
    """Tell whether it is a tuple (name, sort, least, most)."""
    if not isinstance(thing, tuple) or len(thing) != 4:
        return False
    name, sort, least, most = thing
    if not is_name(name) or sort not in (NUMBER, TEXT):
        return False
    return is_number_value(least) and is_number_value(most) and least <= most


def is_form_add(site, fields, deed):
    """Tell whether it is a deed ("add", kind) of these form's fields."""
    if len(deed) != 2:
        return False
    kind = row_named(site["kinds"], deed[1])
    return kind is not None and tuple([field[:2] for field in fields]) == kind[1]


def is_form_change(site, route, fields, deed):
    """Tell whether it is a deed ("change", kind, hole, field) of these form's fields."""
    if len(deed) != 4:
        return False
    kind = row_named(site["kinds"], deed[1])
    if kind is None or not is_number_hole(route, deed[2]):
        return False
    field = row_named(kind[1], deed[3])
    return field is not None and [sort for name, sort, least, most in fields] == [field[1]]


def is_form_deed(site, route, fields, thing):
    """Tell whether it is a deed of a form of this route with these fields."""
    if not isinstance(thing, tuple) or thing == ():
        return False
    if thing[0] == ADD:
        return is_form_add(site, fields, thing)
    if thing[0] == CHANGE:
        return is_form_change(site, route, fields, thing)
    if thing[0] not in (REMOVE, WORK_DEED) or len(thing) != 3 or fields != ():
        return False
    rows = site["kinds"] if thing[0] == REMOVE else site["works"]
    return row_named(rows, thing[1]) is not None and is_number_hole(route, thing[2])


def is_next(site, route, thing):
    """Tell whether it is the name of a get route each of whose holes is one of this route's."""
    following = row_named(routes_of(site, GET), thing)
    return following is not None and all([hole in holes_of_route(route) for hole in holes_of_route(following)])


def is_form(site, route, thing):
    """Tell whether it is a tuple (route, fields, deed, next) of this route."""
    if not isinstance(thing, tuple) or len(thing) != 4:
        return False
    name, fields, deed, following = thing
    if name != route[0] or not are_named_rows(fields, 0, MOST_FORM_FIELDS, is_form_field):
        return False
    return is_form_deed(site, route, fields, deed) and is_next(site, route, following)


def are_right_forms(site):
    """Tell whether the site's forms are some, of its routes, kinds and works."""
    return are_rows_of_routes(site, POST, site["forms"], is_form)


# In the order in which they are looked at: each hangs on those ahead of it alone.
CHECKS = {
    "routes": are_right_routes,
    "kinds": are_right_kinds,
    "rules": are_right_rules,
    "people": are_right_people,
    "works": are_right_works,
    "pages": are_right_pages,
    "forms": are_right_forms,
}


def wrong_in(thing):
    """Tell the first of a site's names that is wrong, None of a site."""
    if not isinstance(thing, dict) or len(thing) != len(CHECKS) or not all([name in thing for name in CHECKS]):
        return NO_SITE
    for name in CHECKS:
        is_right = CHECKS[name]
        if not is_right(thing):
            return name
    return None


def is_site(thing):
    """Tell whether it is a site."""
    return wrong_in(thing) is None
