"""Marked texts: read to nodes, and shown of them (DOC.md, 2.1 and 2.2)."""

from doorhouse.errors import NoMarks, NoNodes
from doorhouse.values import LETTERS, MOST_SIGNS, are_unlike, is_name, is_value_sign

# The `&` stands first: shown so one behind the other, none is shown by another one's signs.
STAND_INS = (("&", "&amp;"), ("<", "&lt;"), (">", "&gt;"), ('"', "&quot;"))
MARK_SIGNS = '<>&"'


def is_plain_sign(sign):
    """Tell whether a sign stands for itself in a marked text."""
    return is_value_sign(sign) and sign not in MARK_SIGNS


def behind(text, at, wanted):
    """Tell the place behind the wanted signs, which have to stand here."""
    for sign in wanted:
        if not text.startswith(sign, at):
            raise NoMarks(at)
        at += 1
    return at


def names_from(start):
    """Tell how many names begin with these letters."""
    many = 0
    for length in range(len(start), MOST_SIGNS + 1):
        many = many * len(LETTERS) + 1
    return many


def is_name_left(start, used):
    """Tell whether a name that begins with these letters is none of those used."""
    return len([name for name in used if name.startswith(start)]) < names_from(start)


def name_end(text, start, used):
    """Tell the place behind the name that has to stand here, none of those used."""
    at = start
    while at < len(text) and text[at] in LETTERS:
        # So it is refused at a letter too many, too: of nine letters there is no name.
        if not is_name_left(text[start:at + 1], used):
            raise NoMarks(at)
        at += 1
    if at == start or text[start:at] in used:
        raise NoMarks(at)
    return at


def stand_in_end(text, start):
    """Tell the place behind the stand-in whose `&` stands here."""
    at = start
    taken = ""
    while taken not in [stand_in for sign, stand_in in STAND_INS]:
        taken = text[start:at + 1]
        if at == len(text) or not any([stand_in.startswith(taken) for sign, stand_in in STAND_INS]):
            raise NoMarks(at)
        at += 1
    return at


def signs_end(text, at):
    """Tell the place as far as signs go on from here."""
    while at < len(text) and (text[at] == "&" or is_plain_sign(text[at])):
        at = stand_in_end(text, at) if text[at] == "&" else at + 1
    return at


def meant_by(signs):
    """Tell the text that the signs of a marked text stand for."""
    for sign, stand_in in reversed(STAND_INS):
        signs = signs.replace(stand_in, sign)
    return signs


def show_signs(text):
    """Tell the signs that stand for a text."""
    for sign, stand_in in STAND_INS:
        text = text.replace(sign, stand_in)
    return text


def read_attribute(text, at, used):
    """Tell the tuple (name, text) of the attribute that has to stand here, and the place behind it."""
    start = behind(text, at, " ")
    end = name_end(text, start, used)
    first = behind(text, end, '="')
    last = signs_end(text, first)
    return ((text[start:end], meant_by(text[first:last])), behind(text, last, '"'))


def read_tag(text, at):
    """Tell NAME and attributes of the tag that begins here, and the place of the `>` or `/` behind them."""
    start = behind(text, at, "<")
    end = name_end(text, start, [])
    name = text[start:end]
    attributes = []
    while text.startswith(" ", end):
        attribute, end = read_attribute(text, end, [used for used, worth in attributes])
        attributes.append(attribute)
    if not text.startswith(">", end) and not text.startswith("/", end):
        raise NoMarks(end)
    return (name, tuple(attributes), end)


def read_marks(text):
    """Tell the tuple of the nodes of a marked text."""
    if not isinstance(text, str):
        raise NoMarks(-1)
    at = 0
    nodes = []
    # For each tag that isn't closed yet: its NAME, its attributes, and the nodes ahead of it.
    around = []
    while at < len(text):
        if text[at] == "&" or is_plain_sign(text[at]):
            end = signs_end(text, at)
            nodes.append(meant_by(text[at:end]))
            at = end
        elif around and text.startswith("</", at):
            name, attributes, ahead = around.pop()
            at = behind(text, at, f"</{name}>")
            ahead.append((name, attributes, tuple(nodes)))
            nodes = ahead
        else:
            name, attributes, end = read_tag(text, at)
            if text[end] == "/":
                at = behind(text, end, "/>")
                nodes.append((name, attributes, ()))
            else:
                at = behind(text, end, ">")
                around.append((name, attributes, nodes))
                nodes = []
    if around:
        raise NoMarks(at)
    return tuple(nodes)


def is_text(thing):
    """Tell whether it is a text that signs may stand for."""
    return isinstance(thing, str) and all([is_value_sign(sign) for sign in thing])


def is_attribute(thing):
    """Tell whether it is a tuple (name, text)."""
    return isinstance(thing, tuple) and len(thing) == 2 and is_name(thing[0]) and is_text(thing[1])


def are_attributes(thing):
    """Tell whether it is a tuple of attributes, names unlike."""
    if not isinstance(thing, tuple) or not all([is_attribute(attribute) for attribute in thing]):
        return False
    return are_unlike([name for name, worth in thing])


def is_node(thing):
    """Tell whether it is a node, but for the nodes within it."""
    if isinstance(thing, str):
        return thing != "" and is_text(thing)
    return isinstance(thing, tuple) and len(thing) == 3 and is_name(thing[0]) and are_attributes(thing[1])


def are_neighbours(thing):
    """Tell whether it is a tuple of nodes, but for those within them, no two of them texts side by side."""
    if not isinstance(thing, tuple) or not all([is_node(node) for node in thing]):
        return False
    return not any([isinstance(one, str) and isinstance(other, str) for one, other in zip(thing, thing[1:])])


def are_nodes(thing):
    """Tell whether it is what read_marks tells of some text."""
    # Looked through without recursion: nodes may stand within one another deeper than calls should.
    waiting = [thing]
    while waiting:
        nodes = waiting.pop()
        if not are_neighbours(nodes):
            return False
        waiting.extend([node[2] for node in nodes if isinstance(node, tuple)])
    return True


def show_tag(name, attributes):
    """Tell how a tag begins, up to its last attribute."""
    return f"<{name}" + "".join([f' {key}="{show_signs(worth)}"' for key, worth in attributes])


def show_marks(nodes):
    """Tell the marked text of nodes."""
    if not are_nodes(nodes):
        raise NoNodes("these are no nodes")
    shown = []
    waiting = list(reversed(nodes))
    while waiting:
        node = waiting.pop()
        if isinstance(node, str):
            shown.append(show_signs(node))
        elif len(node) == 1:
            # How a tag ends waits behind its nodes, as a tuple of this alone, which no node is.
            shown.extend(node)
        else:
            name, attributes, within = node
            shown.append(show_tag(name, attributes) + (">" if within else "/>"))
            if within:
                waiting.append((f"</{name}>",))
                waiting.extend(list(reversed(within)))
    return "".join(shown)
