"""Texts and their rows, names, words, and the texts between bars."""

from lightmark.errors import BadName, BadText

NAME_SIGNS = "abcdefghijklmnopqrstuvwxyzABCDEFGHIJKLMNOPQRSTUVWXYZ0123456789"
LONGEST_NAME = 12


def need_text(thing):
    # The refused thing is not shown: to show it could fail in its own way.
    if not isinstance(thing, str):
        raise BadText("this is no text")
    if "\t" in thing:
        raise BadText("a tab stands in the text")
    return thing


def rows_of(text):
    # Not splitlines: it would drop the empty row behind a last line end.
    return text.split("\n")


def joined(rows):
    return "\n".join(rows)


def is_name(thing):
    if not isinstance(thing, str):
        return False
    if len(thing) < 1 or len(thing) > LONGEST_NAME:
        return False
    # Not isalnum: it would let letters of other alphabets in.
    return all([sign in NAME_SIGNS for sign in thing])


def name_of(thing):
    if not is_name(thing):
        raise BadName("a name is 1 to 12 letters a to z, A to Z and figures")
    return thing.lower()


def words_of(text):
    # Parted at the blank alone: a line end is a sign like any other here.
    return [word for word in text.split(" ") if word != ""]


def tidy(text):
    return " ".join(words_of(text))


def is_parting_bar(text, place):
    if text[place] != "|":
        return False
    return place == 0 or text[place - 1] != "\\"


def split_cells(text):
    bars = [place for place in range(len(text)) if is_parting_bar(text, place)]
    texts = []
    begin = 0
    for bar in bars + [len(text)]:
        texts.append(tidy(text[begin:bar]).replace("\\|", "|"))
        begin = bar + 1
    return texts


def cell_text(text):
    return text.replace("|", "\\|")


def is_rule(text):
    dashes = text[:-1] if text.endswith(":") else text
    return dashes != "" and dashes.strip("-") == ""
