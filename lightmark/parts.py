"""The parts of marked words: what they tell, how they are written, how they are set."""

ESCAPED = "\\*`[]"


class Part:
    pass


class Plain(Part):
    def __init__(self, signs):
        self.signs = signs

    def told(self):
        return ("plain", self.signs)

    def raw(self):
        return escaped(self.signs)

    def said(self, link, note):
        return self.signs


class Code(Part):
    def __init__(self, signs):
        self.signs = signs

    def told(self):
        return ("code", self.signs)

    def raw(self):
        return "`" + self.signs + "`"

    def said(self, link, note):
        return "'" + self.signs + "'"


class Strong(Part):
    def __init__(self, parts):
        self.parts = list(parts)

    def told(self):
        return ("strong", told_parts(self.parts))

    def raw(self):
        return "*" + raw_of(self.parts) + "*"

    def said(self, link, note):
        return "*" + said_of(self.parts, link, note) + "*"


class Link(Part):
    def __init__(self, words, name):
        self.words = words
        self.name = name

    def told(self):
        return ("link", self.words, self.name)

    def raw(self):
        # A "^" first in the words could be read as the mark of a note.
        caret = "\\" if self.words.startswith("^") else ""
        return "[" + caret + escaped(self.words) + "](" + self.name + ")"

    def said(self, link, note):
        return self.words + " (" + link(self.name) + ")"


class Mark(Part):
    def __init__(self, name):
        self.name = name

    def told(self):
        return ("note", self.name)

    def raw(self):
        return "[^" + self.name + "]"

    def said(self, link, note):
        return "[" + note(self.name) + "]"


def escaped(signs):
    return "".join(["\\" + sign if sign in ESCAPED else sign for sign in signs])


def told_parts(parts):
    return [part.told() for part in parts]


def raw_of(parts):
    texts = []
    behind_mark = False
    for part in parts:
        text = part.raw()
        # Only plain signs are written with a ":" first. Behind a mark it
        # would make the row that a paragraph begins with one of a note.
        if behind_mark and text.startswith(":"):
            text = "\\" + text
        texts.append(text)
        behind_mark = isinstance(part, Mark)
    return "".join(texts)


def said_of(parts, link, note):
    return "".join([part.said(link, note) for part in parts])
