"""Answers of `guard` as texts: writing and reading them."""

from interline.errors import TextError
from interline.limits import MAX_PAPER, MAX_TEXT
from interline.tokens import Reader
from interline.words import write_form


def write_answer(told):
    """Return the text of an answer of `guard`."""
    if told[0] == "kept":
        lines = ["(kept)"] + [write_entry(course, plan) for course, plan in told[1]]
    else:
        lines = ["(broken)", write_course(told[1]), write_paper(told[2])]
    return "".join([line + "\n" for line in lines])


def write_course(course):
    """Return the form of a course."""
    return write_form(["course"] + [write_form(event) for event in course])


def write_entry(course, plan):
    """Return the form of an entry of a book."""
    return write_form(["entry", write_course(course)] + [write_way(journey) for journey in plan])


def write_way(journey):
    """Return the form of a way, None for the money back."""
    return write_form(["back"] if journey is None else ["way", *journey])


def write_paper(paper):
    """Return the parentheses of a paper."""
    return "(" + "".join([write_paper(part) for part in paper]) + ")"


def read_answer(text):
    """Return the answer that a text tells, whether it is one of `guard` for some arguments or not."""
    if not isinstance(text, str) or len(text) > MAX_TEXT:
        raise TextError(0)
    reader = Reader(text)
    reader.take("(")
    word = reader.take_word(("kept", "broken"))
    reader.take(")")
    if word == "kept":
        return ("kept", read_book(reader))
    course = read_course(reader)
    paper = read_paper(reader, 1)
    if reader.has_more():
        reader.refuse()
    return ("broken", course, paper)


def read_book(reader):
    """Read entries up to the end of the text."""
    entries = []
    while reader.has_more():
        reader.take("(")
        reader.take_word(("entry",))
        course = read_course(reader)
        plan = []
        while reader.sees("("):
            plan.append(read_way(reader))
        reader.take(")")
        entries.append((course, tuple(plan)))
    return tuple(entries)


def read_course(reader):
    """Read a course."""
    reader.take("(")
    reader.take_word(("course",))
    events = []
    while reader.sees("("):
        events.append(read_event(reader))
    reader.take(")")
    return tuple(events)


def read_event(reader):
    """Read an event."""
    reader.take("(")
    word = reader.take_word(("cancel", "late", "smaller"))
    event = (word, reader.take("name"))
    if word == "late":
        event = (*event, reader.take("number"))
    elif word == "smaller":
        event = (*event, reader.take("name"))
    reader.take(")")
    return event


def read_way(reader):
    """Read a way: the names of at least one flight, or None for the money back."""
    reader.take("(")
    if reader.take_word(("way", "back")) == "back":
        reader.take(")")
        return None
    first = reader.take("name")
    journey = (first, *reader.take_all("name"))
    reader.take(")")
    return journey


def read_paper(reader, depth):
    """Read a paper that stands so deep."""
    reader.take("(")
    parts = []
    # A parenthesis that would go deeper than the limit is refused where the closing one should stand.
    while reader.sees("(") and depth < MAX_PAPER:
        parts.append(read_paper(reader, depth + 1))
    reader.take(")")
    return tuple(parts)


def is_answer(text):
    """Tell whether a value is a text that tells an answer."""
    try:
        read_answer(text)
    except TextError:
        return False
    return True
