"""A store: kinds, things, deeds, and all its versions (DOC.md, stage 3)."""

from doorhouse.errors import Cannot, NoDeeds, NoKinds, NoVersion
from doorhouse.values import (MOST_VALUE, are_named_rows, are_rising, is_name, is_name_or_empty, is_number,
                              is_number_from, is_number_value, is_text_value)

NUMBER = "number"
TEXT = "text"
MOST_KINDS = 4
MOST_FIELDS = 5
# A page has the thing's number by this name, so no field has it.
NUMBER_NAME = "no"

ADD = "add"
CHANGE = "change"
MORE = "more"
REMOVE = "remove"


def is_field(thing):
    """Tell whether it is a tuple (name, sort)."""
    if not isinstance(thing, tuple) or len(thing) != 2:
        return False
    name, sort = thing
    return is_name(name) and name != NUMBER_NAME and sort in (NUMBER, TEXT)


def is_kind(thing):
    """Tell whether it is a tuple (name, fields)."""
    if not isinstance(thing, tuple) or len(thing) != 2:
        return False
    name, fields = thing
    return is_name(name) and are_named_rows(fields, 1, MOST_FIELDS, is_field)


def are_kinds(thing):
    """Tell whether it is a tuple of kinds, names unlike."""
    return are_named_rows(thing, 1, MOST_KINDS, is_kind)


def row_named(rows, name):
    """Tell the row of this name (a kind, or a field), None where there is none."""
    for row in rows:
        if row[0] == name:
            return row
    return None


def is_of_sort(thing, sort):
    """Tell whether it is a value of this sort."""
    return is_number_value(thing) if sort == NUMBER else is_text_value(thing)


def are_values_of(fields, thing):
    """Tell whether it is a tuple of values, one for each field, each of its sort."""
    if not isinstance(thing, tuple) or len(thing) != len(fields):
        return False
    return all([is_of_sort(value, sort) for value, (name, sort) in zip(thing, fields)])


def is_thing_number(thing):
    """Tell whether it is a number that things may have."""
    return is_number(thing) and thing >= 1


def is_thing(kinds, thing):
    """Tell whether it is a tuple (kind, number, owner, values) of one of these kinds."""
    if not isinstance(thing, tuple) or len(thing) != 4:
        return False
    name, number, owner, values = thing
    kind = row_named(kinds, name)
    return kind is not None and is_thing_number(number) and is_name_or_empty(owner) and are_values_of(kind[1], values)


def are_things(kinds, thing):
    """Tell whether it is a rising tuple of things of these kinds, no two of one kind and number."""
    if not isinstance(thing, tuple) or not all([is_thing(kinds, row) for row in thing]):
        return False
    return are_rising([row[:2] for row in thing])


def is_step(thing):
    """Tell whether it is by how much a more may go."""
    return is_number_from(thing, -MOST_VALUE, MOST_VALUE)


def is_worth(deed, field, thing):
    """Tell whether it is what a change, or a more, of this field may have behind it."""
    return is_step(thing) if deed == MORE else is_of_sort(thing, field[1])


def is_deed_of_field(fields, thing):
    """Tell whether it is a change or a more of one of these fields, in a deed whose kind is right."""
    if len(thing) != 5:
        return False
    deed, kind, number, name, worth = thing
    field = row_named(fields, name)
    return is_thing_number(number) and field is not None and is_worth(deed, field, worth)


def is_deed(kinds, thing):
    """Tell whether it is a deed of a store of these kinds."""
    if not isinstance(thing, tuple) or len(thing) < 3:
        return False
    kind = row_named(kinds, thing[1])
    if kind is None:
        return False
    if thing[0] == ADD:
        return len(thing) == 4 and is_name_or_empty(thing[2]) and are_values_of(kind[1], thing[3])
    if thing[0] == REMOVE:
        return len(thing) == 3 and is_thing_number(thing[2])
    return thing[0] in (CHANGE, MORE) and is_deed_of_field(kind[1], thing)


def are_deeds(kinds, thing):
    """Tell whether it is a tuple of deeds of a store of these kinds."""
    return isinstance(thing, tuple) and all([is_deed(kinds, deed) for deed in thing])


def by_number(things):
    """Tell things as a dict by their tuples (kind, number)."""
    return {thing[:2]: thing for thing in things}


def with_value(thing, at, value):
    """Tell a thing with another value at this place."""
    kind, number, owner, values = thing
    return (kind, number, owner, values[:at] + (value,) + values[at + 1:])


def turned_by(kinds, thing, deed):
    """Tell what a thing is behind a change or a more of it, None where this can't be done."""
    fields = row_named(kinds, thing[0])[1]
    field = row_named(fields, deed[3])
    at = fields.index(field)
    if deed[0] == CHANGE:
        return with_value(thing, at, deed[4])
    if field[1] != NUMBER or not is_number_value(thing[3][at] + deed[4]):
        return None
    return with_value(thing, at, thing[3][at] + deed[4])


def does_deed(kinds, things, deed):
    """Do a deed of a thing that is there to a dict of things; tell whether it could be done."""
    key = deed[1:3]
    if key not in things:
        return False
    if deed[0] == REMOVE:
        del things[key]
        return True
    turned = turned_by(kinds, things[key], deed)
    if turned is not None:
        things[key] = turned
    return turned is not None


class Store:
    """A store of things of these kinds, with all its versions."""

    def __init__(self, kinds):
        if not are_kinds(kinds):
            raise NoKinds("these are no kinds")
        self.kinds = kinds
        # The rising tuple of the things at each version, and the last number that each kind gave.
        self.versions = [()]
        self.given = {name: 0 for name, fields in kinds}

    def done(self, deeds):
        """Do deeds, all or none; tell the tuple of the numbers that were given."""
        if not are_deeds(self.kinds, deeds):
            raise NoDeeds("these are no deeds of these kinds")
        things = by_number(self.versions[-1])
        given = dict(self.given)
        numbers = []
        for at, deed in enumerate(deeds):
            if deed[0] == ADD:
                word, kind, owner, values = deed
                given[kind] += 1
                things[(kind, given[kind])] = (kind, given[kind], owner, values)
                numbers.append(given[kind])
            elif not does_deed(self.kinds, things, deed):
                raise Cannot(at)
        self.versions.append(tuple(sorted([things[key] for key in things])))
        self.given = given
        return tuple(numbers)

    def things(self):
        """Tell the rising tuple of the things there are."""
        return self.versions[-1]

    def as_of(self, version):
        """Tell the rising tuple of the things that there were at a version."""
        self.check_version(version)
        return self.versions[version]

    def version(self):
        """Tell the version that it is."""
        return len(self.versions) - 1

    def check_version(self, version):
        """Refuse what is no version up to now."""
        if not is_number_from(version, 0, self.version()):
            raise NoVersion("this is no version of this store")

    def turned(self, one, other):
        """Tell the rising tuple of tuples (kind, number) of the things that are unlike at two versions."""
        self.check_version(one)
        self.check_version(other)
        if one > other:
            raise NoVersion("the first version is greater than the second")
        ahead = by_number(self.versions[one])
        behind = by_number(self.versions[other])
        return tuple(sorted([key for key in {**ahead, **behind} if ahead.get(key) != behind.get(key)]))

    def twin(self):
        """Tell another store with all the versions of this one."""
        other = Store(self.kinds)
        other.versions = list(self.versions)
        other.given = dict(self.given)
        return other

    def __len__(self):
        return len(self.versions[-1])

    def __eq__(self, other):
        return isinstance(other, Store) and self.kinds == other.kinds and self.versions == other.versions
