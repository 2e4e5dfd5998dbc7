"""Letters and histories by chance, the same ones for the same seed."""

from panelwatch.works import Works
from tests.things import CAUSES, COMMANDS, POINTS, RELATIONS, RULES


def worth_of(chance, works, point):
    """Some worth of a point."""
    return chance.randrange(64 if works.point(point)[2] == "level" else 2)


def sent(chance, works, most=40):
    """Letters of all places, each place's in order, at most so many of a place: what places would send."""
    letters = []
    for place in works.places():
        time = 0
        for number in range(1, chance.randint(0, most) + 1):
            rows = []
            for _ in range(chance.choice((0, 1, 1, 2, 3, 12))):
                time += chance.choice((0, 0, 1, 1, 2, 5))
                point = chance.choice(works.points_at(place))
                rows.append((time, point, worth_of(chance, works, point), chance.choice(("good", "good", "odd"))))
            time += chance.choice((0, 1, 3))
            letters.append(("signs", place, number, time, tuple(rows)))
    return letters


def mixed(chance, letters):
    """Letters in another order, some of them doubled."""
    more = letters + chance.choices(letters, k=len(letters) // 3) if letters else []
    chance.shuffle(more)
    return more


def history(chance, many, *, last=60, worths=range(64)):
    """A history of so many signs, odd ones too."""
    times = sorted(chance.sample(range(last + 1), many))
    return [(time, chance.choice(worths), chance.choice(("good", "good", "good", "odd"))) for time in times]


def other_works():
    """Works that are unlike the sample's, in one thing each."""
    return [
        Works([*POINTS[:-1], ("w", "dam", "level")], rules=RULES, causes=CAUSES, commands=COMMANDS,
              relations=RELATIONS),
        Works(POINTS, rules=RULES[::-1], causes=CAUSES, commands=COMMANDS, relations=RELATIONS),
        Works(POINTS, rules=RULES, causes=CAUSES[:-1], commands=COMMANDS, relations=RELATIONS),
        Works(POINTS, rules=RULES, causes=CAUSES, relations=RELATIONS),
        Works(POINTS, rules=RULES, causes=CAUSES, commands=COMMANDS),
    ]
