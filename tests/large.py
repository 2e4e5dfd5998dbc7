"""Works of all bounds, and what is as large as the document allows."""

import time

from panelwatch.works import Works

POINTS = [
    ("pa", "x", "level"), ("pb", "x", "level"), ("pc", "x", "switch"), ("pd", "y", "level"), ("pe", "y", "level"),
    ("pf", "z", "level"), ("pg", "z", "level"), ("ph", "z", "switch"),
]
RULES = [
    ("ra", "pa", "above", 30, 10, 3, 1), ("rb", "pb", "below", 30, 10, 0, 2), ("rc", "pd", "above", 10, 0, 99, 3),
    ("rd", "pf", "above", 10, 63, 5, 1), ("re", "pg", "below", 50, 3, 9, 2), ("rf", "ph", "above", 0, 0, 1, 3),
]
NAMES = [rule[0] for rule in RULES]
CAUSES = [(NAMES[at], NAMES[at + step], 999) for step in (1, 2) for at in range(4)]
COMMANDS = [
    ("ca", "pa", 5, (("pb", "above", 3), ("pc", "below", 1), ("pa", "below", 60), ("pa", "above", 1))),
    ("cb", "pd", 6, ()), ("cc", "pf", 7, ()), ("cd", "ph", 1, (("ph", "below", 1), ("pg", "above", 0))),
]
RELATIONS = [
    ("sum", "pa", ("pb", "pd", "pe")), ("sum", "pf", ("pg", "pd")), ("same", "pb", "pe"), ("gate", "pg", "ph"),
    ("sum", "pe", ("pf", "pg", "pd")),
]


def large_works():
    """Works with eight points at three places, and as many rules, causes, commands and relations as there may be."""
    return Works(POINTS, rules=RULES, causes=CAUSES, commands=COMMANDS, relations=RELATIONS)


def letters_of_all(chance, works):
    """Forty letters of twelve signs of each place."""
    letters = []
    for place in works.places():
        now = 0
        for number in range(1, 41):
            rows = []
            for _ in range(12):
                now += chance.choice((0, 1, 2))
                point = chance.choice(works.points_at(place))
                worth = chance.randrange(64 if works.point(point)[2] == "level" else 2)
                rows.append((now, point, worth, chance.choice(("good", "odd"))))
            letters.append(("signs", place, number, now, tuple(rows)))
    return letters


def in_time(case, ask, most=2):
    """What an ask tells, within so many seconds."""
    began = time.perf_counter()
    told = ask()
    case.assertLess(time.perf_counter() - began, most)
    return told
