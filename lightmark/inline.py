"""Marked words: parts read from a tidy text, and parts made of what is told of them."""

from lightmark.errors import BadTree
from lightmark.parts import Code, Link, Mark, Plain, Strong
from lightmark.signs import LONGEST_NAME, is_name, name_of

TAKEN = "\\*`[]|-+=>~:^"


def parts_of(text):
    return merged(with_strong(pieces_of(text)))


def pieces_of(text):
    # A piece is a text of plain signs, a part, or None for a star that is left.
    closings = closings_of(text)
    pieces = []
    place = 0
    while place < len(text):
        found = piece_at(text, place, closings)
        pieces.append(found[0])
        place = found[1]
    return pieces


def piece_at(text, place, closings):
    sign = text[place]
    if takes_next(text, place):
        return (text[place + 1], place + 2)
    if sign == "*":
        return (None, place + 1)
    found = None
    if sign == "`":
        found = code_at(text, place)
    if sign == "[":
        found = mark_at(text, place)
        if found is None:
            found = link_at(text, place, closings[place])
    return (sign, place + 1) if found is None else found


def takes_next(text, place):
    if text[place] != "\\" or place + 1 == len(text):
        return False
    return text[place + 1] in TAKEN


def closings_of(text):
    # For each place the first "]" behind it that no backslash takes, or -1.
    # Told once for all: many a "[" may have the same one, far away. Code
    # does not count here, as a link's words know of none.
    closings = []
    place = 0
    while place < len(text):
        if takes_next(text, place):
            place += 2
            continue
        if text[place] == "]":
            closings.extend([place] * (place - len(closings)))
        place += 1
    return closings + [-1] * (len(text) - len(closings))


def code_at(text, place):
    end = text.find("`", place + 1)
    if end < 0 or end == place + 1:
        return None
    return (Code(text[place + 1:end]), end + 1)


def mark_at(text, place):
    if not text.startswith("[^", place):
        return None
    begin = place + 2
    end = text.find("]", begin, begin + LONGEST_NAME + 1)
    if end < 0 or not is_name(text[begin:end]):
        return None
    return (Mark(name_of(text[begin:end])), end + 1)


def link_at(text, place, closing):
    if closing <= place + 1 or not text.startswith("](", closing):
        return None
    begin = closing + 2
    end = text.find(")", begin, begin + LONGEST_NAME + 1)
    if end < 0 or not is_name(text[begin:end]):
        return None
    return (Link(freed(text[place + 1:closing]), name_of(text[begin:end])), end + 1)


def freed(text):
    signs = []
    place = 0
    while place < len(text):
        if takes_next(text, place):
            place += 1
        signs.append(text[place])
        place += 1
    return "".join(signs)


def with_strong(pieces):
    outer = []
    inner = []
    begun = False
    for piece in pieces:
        if piece is not None and begun:
            inner.append(piece)
        elif piece is not None:
            outer.append(piece)
        elif not begun:
            begun = True
        else:
            outer.append("**" if inner == [] else Strong(merged(inner)))
            inner = []
            begun = False
    if begun:
        outer.append("*")
    return outer + inner


def merged(pieces):
    parts = []
    signs = []
    for piece in pieces:
        if isinstance(piece, str):
            signs.append(piece)
            continue
        if signs != []:
            parts.append(Plain("".join(signs)))
            signs = []
        parts.append(piece)
    if signs != []:
        parts.append(Plain("".join(signs)))
    return parts


def need_parts(told):
    parts = need_run(told, True)
    if parts != [] and (begins_with_blank(parts[0]) or ends_with_blank(parts[-1])):
        raise BadTree("a blank stands at the begin or at the end")
    return parts


def need_run(told, strong_too):
    # Neither here nor below is the refused thing shown: it could fail at that.
    if not isinstance(told, list):
        raise BadTree("parts are told as a list")
    parts = []
    for thing in told:
        part = need_part(thing, strong_too)
        if parts != [] and isinstance(part, Plain) and isinstance(parts[-1], Plain):
            raise BadTree("two plain parts stand side by side")
        parts.append(part)
    return parts


def need_part(thing, strong_too):
    if not isinstance(thing, tuple) or len(thing) < 2 or not isinstance(thing[0], str):
        raise BadTree("a part is told as a tuple that its sort begins")
    sort = thing[0]
    if sort == "link" and len(thing) == 3:
        return Link(need_signs(thing[1]), need_small_name(thing[2]))
    if len(thing) == 2 and sort == "plain":
        return Plain(need_signs(thing[1]))
    if len(thing) == 2 and sort == "code":
        return Code(need_code(thing[1]))
    if len(thing) == 2 and sort == "note":
        return Mark(need_small_name(thing[1]))
    if len(thing) == 2 and sort == "strong" and strong_too:
        return Strong(need_inner(thing[1]))
    raise BadTree("there is no such part here")


def need_inner(told):
    parts = need_run(told, False)
    if parts == []:
        raise BadTree("a strong part has no parts")
    return parts


def need_signs(thing):
    if not isinstance(thing, str) or thing == "":
        raise BadTree("the signs of a part are a text that is not empty")
    if "  " in thing or "\t" in thing or "\n" in thing:
        raise BadTree("two blanks side by side, a tab or a line end stand in a part")
    return thing


def need_code(thing):
    signs = need_signs(thing)
    if "`" in signs:
        raise BadTree("a ` stands in code")
    return signs


def need_small_name(thing):
    if not is_name(thing) or thing != name_of(thing):
        raise BadTree("a name is told in small letters")
    return thing


def begins_with_blank(part):
    return isinstance(part, Plain) and part.signs.startswith(" ")


def ends_with_blank(part):
    return isinstance(part, Plain) and part.signs.endswith(" ")
