"""Templates: marked texts with holes, and what they come to when they are filled (DOC.md, 2.3 to 2.5)."""

from doorhouse.errors import NoData, NoMarks, NoTemplate
from doorhouse.marks import read_marks, show_marks, show_signs
from doorhouse.values import WORD_SIGNS, is_name, is_value, sign_place

# The kinds of the parts of a template: its own signs, holes, and where blocks begin and end.
OWN = "own"
INNER = "inner"
QUOTED = "quoted"
LINK = "link"
HOLES = (INNER, QUOTED, LINK)
EACH = "each"
WHEN = "when"
BLOCKS = (EACH, WHEN)
END = "end"

LINK_ATTRIBUTE = "to"
# Neither between tags nor in an attribute does a marked text go on with this sign.
BREAKING = ">"


def is_marked(thing):
    """Tell whether it is a marked text."""
    try:
        read_marks(thing)
    except NoMarks:
        return False
    return True


def hole_kind(ahead):
    """Tell the kind of a hole behind these signs of a marked text."""
    # Only tags have these signs, so where the last one is a `<`, its tag is not at its end yet.
    if ahead.rfind("<") <= ahead.rfind(">"):
        return INNER
    name = ahead.rpartition('="')[0].rpartition(" ")[2]
    return LINK if name == LINK_ATTRIBUTE else QUOTED


def read_hole(inner, ahead):
    """Tell the part (kind, NAME) that stands between two braces each, behind these signs; None of what is none."""
    kind = hole_kind(ahead)
    if is_name(inner) and inner != END and inner not in BLOCKS:
        return (kind, inner)
    if kind != INNER:
        return None
    if inner == END:
        return (END, "")
    word, blank, name = inner.partition(" ")
    return (word, name) if word in BLOCKS and is_name(name) else None


def own_signs(parts):
    """Tell the signs of these parts that are the template's own."""
    return "".join([text for kind, text in parts if kind == OWN])


def parts_of(text):
    """Tell the list of the parts, tuples (kind, signs or NAME), of a marked text; None where braces stand otherwise."""
    own, *rows = text.split("{{")
    parts = [(OWN, own)]
    ahead = own
    for row in rows:
        inner, closing, own = row.partition("}}")
        part = read_hole(inner, ahead)
        if part is None or closing == "":
            return None
        parts.extend([part, (OWN, own)])
        ahead += row
    return None if "{" in own_signs(parts) or "}" in own_signs(parts) else parts


def are_blocks_whole(parts):
    """Tell whether each block has an end of its own, among the same nodes, and each end a block."""
    begun = []
    for at, (kind, text) in enumerate(parts):
        if kind in BLOCKS:
            begun.append(at)
        elif kind == END:
            # Both stand among the same nodes where what is between them is a marked text by itself.
            if not begun or not is_marked(own_signs(parts[begun.pop() + 1:at])):
                return False
    return not begun


def read_template(thing):
    """Tell the list of the parts of a template, None of what is none."""
    if not is_marked(thing):
        return None
    parts = parts_of(thing)
    return parts if parts is not None and are_blocks_whole(parts) else None


def is_template(thing):
    """Tell whether it is a template."""
    return read_template(thing) is not None


def parts_or_refused(template):
    """Tell the list of the parts of a template; refuse what is none."""
    parts = read_template(template)
    if parts is None:
        raise NoTemplate("this is no template")
    return parts


def holes_of(template):
    """Tell the tuple of tuples (kind, NAME) of the holes and blocks, in the order in which they stand."""
    return tuple([part for part in parts_or_refused(template) if part[0] in HOLES or part[0] in BLOCKS])


def is_datum(thing):
    """Tell whether it is a value or a tuple, which may stand in data by a name."""
    return isinstance(thing, tuple) or is_value(thing)


def are_data(thing):
    """Tell whether it is data."""
    # Looked through without recursion: data may stand within one another deeper than calls should.
    waiting = [thing]
    while waiting:
        data = waiting.pop()
        if not isinstance(data, dict):
            return False
        if not all([is_name(name) and is_datum(data[name]) for name in data]):
            return False
        for name in data:
            if isinstance(data[name], tuple):
                waiting.extend(data[name])
    return True


def check_data(data):
    """Refuse what is no data."""
    if not are_data(data):
        raise NoData("these are no data")


def rounds_of(block, data):
    """Tell the list of the data by which what stands within a block (kind, NAME) is laid out, once by each."""
    kind, name = block
    datum = data.get(name, ())
    if kind == WHEN:
        return [data] if datum else []
    return [{**data, **own} for own in datum] if isinstance(datum, tuple) else []


def end_of(parts, at):
    """Tell the place of the end of the block that begins here."""
    deep = 1
    while deep > 0:
        at += 1
        if parts[at][0] in BLOCKS:
            deep += 1
        elif parts[at][0] == END:
            deep -= 1
    return at


def text_at(name, data):
    """Tell the text of a name's value, the empty one where there is none."""
    datum = data.get(name, "")
    return "" if isinstance(datum, tuple) else str(datum)


def laid_out(parts, data, put_in):
    """Tell the signs of parts with data in them: put_in tells, of a hole's kind and a text, how this stands there."""
    shown = []
    at = 0
    while at < len(parts):
        kind, text = parts[at]
        if kind in BLOCKS:
            end = end_of(parts, at)
            within = parts[at + 1:end]
            for own in rounds_of(parts[at], data):
                shown.append(laid_out(within, own, put_in))
            at = end
        elif kind == OWN:
            shown.append(text)
        else:
            shown.append(put_in(kind, text_at(text, data)))
        at += 1
    return "".join(shown)


def link_sign(sign):
    """Tell how a sign of a value stands in a link."""
    return sign if sign in WORD_SIGNS else f"~{sign_place(sign):02}"


def put_in_safely(kind, text):
    """Tell the signs that are read to a text, or in a link to what stands there for it."""
    return "".join([link_sign(sign) for sign in text]) if kind == LINK else show_signs(text)


def put_in_as_is(kind, text):
    """Tell a text as it is, at a hole of whatever kind."""
    return text


def tree_of(parts, data):
    """Tell the nodes of a template of these parts that is filled with data, or with numbers too great for data."""
    return read_marks(laid_out(parts, data, put_in_safely))


def filled_tree(template, data):
    """Tell the nodes of a template that is filled with data."""
    parts = parts_or_refused(template)
    check_data(data)
    return tree_of(parts, data)


def filled(template, data):
    """Tell the marked text of a template that is filled with data."""
    return show_marks(filled_tree(template, data))


def pasted(template, data):
    """Tell the template's own signs with each value put in as it is."""
    parts = parts_or_refused(template)
    check_data(data)
    return laid_out(parts, data, put_in_as_is)


def data_that_break(around, name):
    """Tell data that put the breaking sign into the hole of this name, within the blocks around it."""
    data = {name: BREAKING}
    for kind, block_name in reversed(around):
        if kind == EACH:
            data = {block_name: (data,)}
        else:
            # What the name has already, a tuple or the sign, lets its `when` be shown, too.
            data.setdefault(block_name, BREAKING)
    return data


def breaks(template):
    """Tell data of which what is pasted is no marked text, None where the template has no hole for a value."""
    around = []
    for part in parts_or_refused(template):
        if part[0] in HOLES:
            return data_that_break(around, part[1])
        if part[0] in BLOCKS:
            around.append(part)
        elif part[0] == END:
            around.pop()
    return None
