"""Rolls and values that several tests use."""

import random
from itertools import combinations

from grantroll.rolls import Roll

FOUR = [(1, 'ann', 'bo', 5, 2), (1, 'bo', 'di', 2, 0), (2, 'bo', 'cy', 3, 1), (3, 'cy', 'di', 3, 0)]

# Values of every kind that are neither a grant, a name, a list or tuple of grants, nor a paper.
ODD_VALUES = [
    None, True, False, 0, 1, -1, 10 ** 999, '', 'ann', 'owners ann', (), [], (None,), [[]], ((),),
    (1, 2), ['chain'], ('chain',), ('closed', None), (1, 'ann', 'bo', 5), [1, 'ann', 'bo', 5, 2],
    (True, 'ann', 'bo', 5, 2), (1, 'ann', 'bo', 5, False), (1, 'ann', 'bo', True, 2), {}, {'chain': []},
    (1, 'ann', 'bo', 5, 2, 3), ((1, 'ann', 'bo', 5, 2),), ([1], ['ann'], {}, None, ()),
]


def deep_value():
    """A value that is nested 50 levels deep."""
    value = ()
    for _ in range(50):
        value = [value]
    return value


def four_roll():
    return Roll('ann', grants=FOUR)


def person(number):
    """A name for each small number, in ascending order."""
    return 'p' + 'abcdefghijklmnopqrstuvwxyz'[number]


def layers(many=20, wide=3):
    """Layers of grants, ascending; each grant of a layer supports each one of the next layer."""
    rows = []
    for layer in range(many):
        giver = 'ann' if layer == 0 else person(layer)
        rows.append([(wide * layer + place, giver, person(layer + 1), 1, 20 - layer) for place in range(wide)])
    return rows


def layered_roll(rows):
    return Roll('ann', grants=[grant for row in rows for grant in row])


def random_rolls(many, most, seed=1):
    """Small rolls in which a lot of grants support one another, by a fixed seed."""
    chance = random.Random(seed)
    names = ['ann', 'bo', 'cy', 'di', 'ed']
    rolls = []
    for _ in range(many):
        owners = chance.sample(names[:3], chance.randint(1, 2))
        grants = {}
        for _ in range(chance.randint(0, most)):
            giver = chance.choice(names)
            takers = [name for name in names if name != giver and name not in owners]
            grant = (chance.randint(-3, 5), giver, chance.choice(takers), chance.randint(1, 3), chance.randint(0, 4))
            grants[grant] = True
        entries = list(grants)
        chance.shuffle(entries)
        rolls.append(Roll(*owners, grants=entries))
    return rolls


def plainly_supports(first, second):
    """What the document says of supporting, entry by entry."""
    return (first[2] == second[1] and first[0] < second[0]
            and first[3] >= second[3] and first[4] > second[4])


def all_chains(roll, grant):
    """Every chain for the grant, found by trying every list of grants in ascending order."""
    found = []
    for size in range(1, len(roll) + 1):
        for some in combinations(roll.grants, size):
            links = all(plainly_supports(*pair) for pair in zip(some, some[1:]))
            if some[-1] == grant and some[0][1] in roll.owners and links:
                found.append(list(some))
    return sorted(found)


def all_closed_sets(roll):
    """Every closed set of the roll, as ascending lists, found by trying every set of grants."""
    found = []
    for size in range(len(roll) + 1):
        for some in combinations(roll.grants, size):
            forced = [grant for grant in roll.grants if grant[1] in roll.owners
                      or any(plainly_supports(member, grant) for member in some)]
            if all(grant in some for grant in forced):
                found.append(list(some))
    return found
