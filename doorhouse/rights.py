"""Rights: rules, askers, and what of things an asker sees (DOC.md, stage 4)."""

from doorhouse.errors import NoAsker, NoKinds, NoName, NoPeople, NoRules, NoThings, NoVerb
from doorhouse.store import are_kinds, are_things, row_named
from doorhouse.values import are_named_rows, are_rising, is_name, is_name_or_empty, is_word

ALL = "all"
KNOWN = "known"
OWN = "own"
ROLE = "role"

SEE = "see"
DEEDS = (SEE, "add", "change", "remove")

MOST_RULES = 12
MOST_PEOPLE = 6


def is_who(thing):
    """Tell whether it is one of those whom a rule may be for."""
    if isinstance(thing, tuple):
        return len(thing) == 2 and thing[0] == ROLE and is_name(thing[1])
    return thing in (ALL, KNOWN, OWN)


def is_rule(thing):
    """Tell whether it is a tuple (who, deed, kind, field)."""
    if not isinstance(thing, tuple) or len(thing) != 4:
        return False
    who, deed, kind, field = thing
    return is_who(who) and deed in DEEDS and is_name(kind) and is_name_or_empty(field)


def are_rules(thing):
    """Tell whether it is a tuple of rules."""
    return isinstance(thing, tuple) and len(thing) <= MOST_RULES and all([is_rule(rule) for rule in thing])


def are_roles(thing):
    """Tell whether it is a rising tuple of names."""
    return isinstance(thing, tuple) and all([is_name(role) for role in thing]) and are_rising(thing)


def is_asker(thing):
    """Tell whether it is None or a tuple (name, roles)."""
    if thing is None:
        return True
    return isinstance(thing, tuple) and len(thing) == 2 and is_name(thing[0]) and are_roles(thing[1])


def is_person(thing):
    """Tell whether it is a tuple (name, word, roles)."""
    if not isinstance(thing, tuple) or len(thing) != 3:
        return False
    name, word, roles = thing
    return is_name(name) and is_word(word) and are_roles(roles)


def are_people(thing):
    """Tell whether it is a tuple of people, names unlike."""
    return are_named_rows(thing, 0, MOST_PEOPLE, is_person)


def asker_of(person):
    """Tell the asker that a person is."""
    name, word, roles = person
    return (name, roles)


def name_of(asker):
    """Tell an asker's name, the empty text of None."""
    return "" if asker is None else asker[0]


def check_rules(rules):
    """Refuse what is no rules."""
    if not are_rules(rules):
        raise NoRules("these are no rules")


def check_asker(asker):
    """Refuse what is no asker."""
    if not is_asker(asker):
        raise NoAsker("this is no asker")


def check_things(kinds, things):
    """Refuse what is no things of these kinds."""
    if not are_things(kinds, things):
        raise NoThings("these are no things of these kinds")


def is_for(who, asker, owner):
    """Tell whether a rule for who is for this asker, of a thing of this owner."""
    if who == ALL:
        return True
    if asker is None:
        return False
    name, roles = asker
    if who == OWN:
        return name == owner
    return who == KNOWN or who[1] in roles


def find_rule(rules, asker, deed, kind, field, owner):
    """Tell what lets does, of what is known to be right."""
    for place, (who, rule_deed, rule_kind, rule_field) in enumerate(rules):
        # Of the field "" only a rule of "" is: both texts here are the same then.
        if (rule_deed, rule_kind) == (deed, kind) and rule_field in (field, "") and is_for(who, asker, owner):
            return place
    return None


def lets(rules, asker, deed, kind, field="", owner=""):
    """Tell the place of the first rule that lets the asker do this, None where none does."""
    check_rules(rules)
    check_asker(asker)
    if deed not in DEEDS:
        raise NoVerb("this is no deed of rules")
    if not is_name(kind):
        raise NoName("this is no kind's name")
    if not is_name_or_empty(field):
        raise NoName("this is no field's name")
    if not is_name_or_empty(owner):
        raise NoName("this is no owner's name")
    return find_rule(rules, asker, deed, kind, field, owner)


def fields_seen(kinds, rules, asker, thing):
    """Tell the list of tuples (field, value, place) of what the asker sees of a thing, place being the rule's."""
    kind, number, owner, values = thing
    rows = []
    for (field, sort), value in zip(row_named(kinds, kind)[1], values):
        place = find_rule(rules, asker, SEE, kind, field, owner)
        if place is not None:
            rows.append((field, value, place))
    return rows


def things_seen(kinds, rules, asker, things):
    """Tell the list of tuples (kind, number, rows as fields_seen has them) of the things that the asker sees."""
    rows = [(thing[0], thing[1], fields_seen(kinds, rules, asker, thing)) for thing in things]
    return [row for row in rows if row[2]]


def without_places(fields):
    """Tell the tuple of tuples (field, value) of rows as fields_seen has them."""
    return tuple([(field, value) for field, value, place in fields])


def shown_to(kinds, rules, asker, things):
    """Tell what seen does, of what is known to be right."""
    rows = things_seen(kinds, rules, asker, things)
    return tuple([(kind, number, without_places(fields)) for kind, number, fields in rows])


def check_all_but_things(kinds, rules, asker):
    """Refuse kinds, rules or an asker that are none."""
    if not are_kinds(kinds):
        raise NoKinds("these are no kinds")
    check_rules(rules)
    check_asker(asker)


def seen(kinds, rules, asker, things):
    """Tell the tuple of tuples (kind, number, fields) of what the asker sees of things."""
    check_all_but_things(kinds, rules, asker)
    check_things(kinds, things)
    return shown_to(kinds, rules, asker, things)


def are_twins(kinds, rules, asker, things, others):
    """Tell whether the asker sees things and others alike."""
    check_all_but_things(kinds, rules, asker)
    check_things(kinds, things)
    check_things(kinds, others)
    return shown_to(kinds, rules, asker, things) == shown_to(kinds, rules, asker, others)


def is_met(rules, place, asker):
    """Tell whether lets tells this place of the asker, of some deed, kind, field and owner."""
    who, deed, kind, field = rules[place]
    # Any other field or owner lets at most more of the rules ahead.
    return place in [find_rule(rules, asker, deed, kind, field, owner) for owner in ("", name_of(asker))]


def nobody(rules, people):
    """Tell the rising tuple of the places that lets never tells of None and of these people."""
    check_rules(rules)
    if not are_people(people):
        raise NoPeople("these are no people")
    askers = [None] + [asker_of(person) for person in people]
    return tuple([place for place in range(len(rules)) if not any([is_met(rules, place, asker) for asker in askers])])
