"""Texts of works and of letters."""

from panelwatch.errors import NoLetter, NoRow, NoText
from panelwatch.forms import row_of, things_in
from panelwatch.letters import is_letter
from panelwatch.shapes import is_cause_shape, is_command_shape, is_point_shape, is_relation_shape, is_rule_shape
from panelwatch.works import Works, check_works

_WORDS = ("point", "rule", "cause", "command", "relation")
_IN_LOCK = 3
_IN_SIGN = 4


def works_text(works):
    """Tell the text of some works."""
    check_works(works)
    lists = (works.points(), works.rules(), works.causes(), works.commands(), works.relations())
    return "\n".join([row_of((word, *row)) for word, rows in zip(_WORDS, lists) for row in rows])


def works_of(text):
    """Tell the works that a text writes."""
    check_text(text)
    return works_of_rows(text.split("\n"))


def check_text(thing):
    """Refuse what is no text."""
    if not isinstance(thing, str):
        raise NoText(thing)


def works_of_rows(rows):
    """Tell the works that the rows of a text write."""
    lists = {word: [] for word in _WORDS}
    ahead = 0
    for at, row in enumerate(rows):
        word, things = _tuple_in(things_in(row))
        if word is None or _WORDS.index(word) < ahead:
            raise NoRow(at)
        ahead = _WORDS.index(word)
        lists[word].append(things)
    return Works(
        lists["point"], rules=lists["rule"], causes=lists["cause"], commands=lists["command"],
        relations=lists["relation"],
    )


def _tuple_in(things):
    """Tell the word and the tuple of a row of works that some things are, None and () of what is none."""
    word, rest = (things[0], tuple(things[1:])) if things else (None, ())
    if word == "command":
        rest = (*rest[:3], _groups(rest[3:], _IN_LOCK))
    if word == "relation" and rest[:1] == ("sum",):
        rest = (*rest[:2], rest[2:])
    return (word, rest) if _is_of_works(word, rest) else (None, ())


def _is_of_works(word, thing):
    if word == "point":
        return is_point_shape(thing)
    if word == "rule":
        return is_rule_shape(thing)
    if word == "cause":
        return is_cause_shape(thing)
    if word == "command":
        return is_command_shape(thing)
    return word == "relation" and is_relation_shape(thing)


def _groups(things, many):
    """Tell a tuple of tuples of so many things, one behind the other; the last one may lack some."""
    return tuple([tuple(things[at:at + many]) for at in range(0, len(things), many)])


def letter_text(works, letter):
    """Tell the text of a letter of some works."""
    check_works(works)
    if not is_letter(works, letter):
        raise NoLetter(letter)
    return row_of(letter)


def letter_of(works, text):
    """Tell the letter of some works that a text writes."""
    check_works(works)
    letter = _letter_in(things_in(text))
    if not is_letter(works, letter):
        raise NoText(text)
    return letter


def _letter_in(things):
    """Tell a tuple that is the letter that some things write, where they write one."""
    word, rest = (things[0], tuple(things[1:])) if things else (None, ())
    if word == "signs":
        return (word, *rest[:3], _groups(rest[3:], _IN_SIGN))
    if word == "do":
        return (word, rest[:2], *rest[2:])
    if word == "back":
        return word, rest
    if word == "answer":
        return (word, *rest[:1], rest[1:3], *rest[3:])
    return (word, *rest)
