"""Words filled into rows of a width."""


def filled(words, width, lead):
    rows = []
    held = []
    used = 0
    for word in words:
        if held != [] and used + 1 + len(word) <= width:
            held.append(word)
            used += 1 + len(word)
            continue
        if held != []:
            rows.append(" ".join(held))
        held = [last_piece(word, width, lead, rows)]
        used = len(held[0])
    if held != []:
        rows.append(" ".join(held))
    return rows


def last_piece(word, width, lead, rows):
    # Adds the rows that pieces of the word fill, and gives the begin of the
    # row that is left. Places and not shorter words: a long word would be
    # copied again and again.
    place = 0
    ahead = lead(len(rows))
    while len(word) - place > room_behind(ahead, width):
        piece = word[place:place + room_behind(ahead, width)]
        rows.append(ahead + piece)
        place += len(piece)
        ahead = lead(len(rows))
    return ahead + word[place:]


def room_behind(ahead, width):
    # Without a room no word would ever come to its end.
    return max(1, width - len(ahead))
