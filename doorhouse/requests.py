"""Requests and logs: what a house may be asked (DOC.md, 6.1 and 6.7), told of anything."""

from doorhouse.routes import GET, POST, is_path
from doorhouse.values import is_name, is_number, is_number_from, is_value, is_word

COME = "come"
LOGIN = "login"
LOGOUT = "logout"
WAIT = "wait"
WORK = "work"

MOST_TICKS = 1000
MOST_VALUES = 10


def is_count(thing):
    """Tell whether it is a number from 0 on, as sessions and tickets are."""
    return is_number(thing) and thing >= 0


def is_many(thing):
    """Tell whether it is a number of ticks, or of steps, that may be told at once."""
    return is_number_from(thing, 0, MOST_TICKS)


def are_values(thing):
    """Tell whether it is a dict of values by names, as a post may have them."""
    if not isinstance(thing, dict) or len(thing) > MOST_VALUES:
        return False
    return all([is_name(name) and is_value(thing[name]) for name in thing])


def is_login(thing):
    """Tell whether a tuple is a login."""
    return len(thing) == 4 and is_count(thing[1]) and is_name(thing[2]) and is_word(thing[3])


def is_logout(thing):
    """Tell whether a tuple is a logout."""
    return len(thing) == 2 and is_count(thing[1])


def is_get(thing):
    """Tell whether a tuple is a get."""
    return len(thing) == 3 and is_count(thing[1]) and is_path(thing[2])


def is_post(thing):
    """Tell whether a tuple is a post."""
    if len(thing) != 5 or not is_count(thing[1]) or not is_path(thing[2]):
        return False
    return is_count(thing[3]) and are_values(thing[4])


def is_request(thing):
    """Tell whether it is a request."""
    if not isinstance(thing, tuple) or len(thing) == 0:
        return False
    if thing[0] == LOGIN:
        return is_login(thing)
    if thing[0] == LOGOUT:
        return is_logout(thing)
    if thing[0] == GET:
        return is_get(thing)
    if thing[0] == POST:
        return is_post(thing)
    return thing == (COME,)


def is_pastime(thing):
    """Tell whether it is a tuple ("wait", many) or ("work", many)."""
    return isinstance(thing, tuple) and len(thing) == 2 and thing[0] in (WAIT, WORK) and is_many(thing[1])


def is_log(thing):
    """Tell whether it is a tuple of requests, waits and works."""
    return isinstance(thing, tuple) and all([is_request(entry) or is_pastime(entry) for entry in thing])


def own_copy(entry):
    """Tell one of a log with a dict of its own, where it has any: nobody else can change it then."""
    return entry[:4] + (dict(entry[4]),) if entry[0] == POST else entry
