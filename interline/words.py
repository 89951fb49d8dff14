"""Nets as texts: reading and writing them."""

from interline.errors import TextError
from interline.forms import CLASSES, FIELDS, FORMS
from interline.limits import MAX_TEXT
from interline.tokens import Reader


def read_net(text):
    """Return the net that a text tells, whether it keeps the rules or not."""
    if not isinstance(text, str) or len(text) > MAX_TEXT:
        raise TextError(0)
    reader = Reader(text)
    parts = [[], [], [], [], [], []]
    first = 0
    while first <= CLASSES or reader.has_more():
        first = read_form(reader, parts, first)
    return tuple([tuple(rows) for rows in parts])


def read_form(reader, parts, first):
    """Read a form into its part, and return the first part that the next form may belong to."""
    reader.take("(")
    # Nothing may follow the parts ahead of the classes before these were told.
    allowed = FORMS[first:CLASSES + 1] if first <= CLASSES else FORMS[first:]
    part = FORMS.index(reader.take_word(allowed))
    if part == CLASSES:
        parts[part].extend(reader.take_all("name"))
        first = part + 1
    else:
        parts[part].append(tuple([read_field(reader, field) for field in FIELDS[part]]))
        first = part
    reader.take(")")
    return first


def read_field(reader, field):
    """Read the value of a field of a row."""
    if field == "limits":
        reader.take("(")
        reader.take_word(("limits",))
        numbers = reader.take_all("number")
        reader.take(")")
        return numbers
    if field == "names":
        return reader.take_all("name")
    return reader.take(field)


def write_net(net):
    """Return the text of a net that keeps the rules."""
    lines = []
    for part, rows in enumerate(net):
        if part == CLASSES:
            lines.append(write_form([FORMS[part], *rows]))
        else:
            lines.extend([write_row(part, row) for row in rows])
    return "".join([line + "\n" for line in lines])


def write_row(part, row):
    """Return the form of a row of a part."""
    words = [FORMS[part]]
    for field, value in zip(FIELDS[part], row):
        if field == "limits":
            words.append(write_form(["limits", *value]))
        elif field == "names":
            words.extend(value)
        else:
            words.append(value)
    return write_form(words)


def write_form(words):
    """Return a form of names, numbers and forms."""
    return "(" + " ".join([str(word) for word in words]) + ")"
