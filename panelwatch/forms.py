"""The words of texts: which things a row writes, and of which kinds these are."""

from panelwatch.words import is_id, is_mark, is_name, is_room, is_time, number_in, words_in


def things_in(text):
    """Tell the list of things that the words of a row write, numbers and texts, none of what is no row."""
    words = words_in(text)
    return [] if words is None else [_thing_in(word) for word in words]


def _thing_in(word):
    # No name begins with a figure: what writes a number plainly can't be anything else.
    number = number_in(word)
    return word if number is None else number


def row_of(things):
    """Tell the row that writes some things, those of tuples one behind the other."""
    return " ".join(_words_of(things))


def _words_of(things):
    words = []
    for thing in things:
        words.extend(_words_of(thing) if isinstance(thing, tuple) else [str(thing)])
    return words


def are_of_kinds(kinds, things):
    """Tell whether things are of just these kinds, one by one."""
    return len(kinds) == len(things) and all([_is_of_kind(kind, thing) for kind, thing in zip(kinds, things)])


def _is_of_kind(kind, thing):
    if kind == "name":
        return is_name(thing)
    if kind == "mark":
        return is_mark(thing)
    if kind == "room":
        return is_room(thing)
    if kind == "ident":
        return is_id(thing)
    # Numbers in texts have the bounds of times.
    return is_time(thing)
