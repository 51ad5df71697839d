"""Lines: the versions of the pages that a house told, and whether they show so (DOC.md, stage 7)."""

from doorhouse.errors import NoLine
from doorhouse.house import FINE, GO_ON, NOT_THERE
from doorhouse.pages import plain_page
from doorhouse.routes import POST
from doorhouse.values import is_number_from


def plain_answer(house, at, version):
    """Tell what a plain house answers to the get at this place, as of a version, with the house's own ticket."""
    asker = house.traces[at][2]
    page = plain_page(house.site, asker, house.stock.as_of(version), house.entries[at][2])
    return (NOT_THERE, "", 0) if page is None else (FINE, page, house.replies[at][2])


def is_young(house, at, version):
    """Tell whether a version was the store's at the get at this place, or until just before it, as pages are kept."""
    tick, current, asker, made = house.traces[at]
    if version == current:
        return True
    ends = [moment for moment, behind, other, page in house.traces[:at] if behind > version]
    return house.keep > 0 and tick - ends[0] <= house.keep


def least_version(house, at):
    """Tell the version behind the last post by the same asker ahead of this place that was done, 0 without one."""
    asker = house.traces[at][2]
    least = 0
    for entry, reply, trace in zip(house.entries[:at], house.replies, house.traces):
        if entry[0] == POST and reply[0] == GO_ON and trace[2] == asker:
            least = trace[1]
    return least


def is_right_at(house, at, thing):
    """Tell whether it is what a line may have at this place."""
    tick, current, asker, made = house.traces[at]
    if made is None:
        return thing is None
    if not is_number_from(thing, least_version(house, at), current) or not is_young(house, at, thing):
        return False
    return plain_answer(house, at, thing) == house.replies[at]


def first_wrong(house, thing):
    """Tell the first place of the log at which it is no line, -1 of what is no tuple of as many, None of a line."""
    if not isinstance(thing, tuple) or len(thing) != len(house.entries):
        return -1
    for at, version in enumerate(thing):
        if not is_right_at(house, at, version):
            return at
    return None


def is_line(house, thing):
    """Tell whether it is a line of the house's log."""
    return first_wrong(house, thing) is None


def plain_of(house, line):
    """Tell the tuple of the answers that a plain house gives at the versions of a line."""
    if not is_line(house, line):
        raise NoLine("this is no line of this house")
    replies = []
    for at, version in enumerate(line):
        replies.append(house.replies[at] if version is None else plain_answer(house, at, version))
    return tuple(replies)
