"""Rolls and values that several tests use."""

import random
from itertools import combinations

from grantroll.rolls import Roll

FOUR = [(1, 'ann', 'bo', 5, 2), (1, 'bo', 'di', 2, 0), (2, 'bo', 'cy', 3, 1), (3, 'cy', 'di', 3, 0)]

# Values of every kind that are neither a grant, a name, a list or tuple of grants, nor a paper.
ODD_VALUES = [
    None, True, False, 0, 1, -1, 10 ** 999, '', 'ann', 'owners ann', (), [], (None,), [[]], ((),),
    (1, 2), ['chain'], ('chain',), ('closed', None), (1, 'ann', 'bo', 5), [1, 'ann', 'bo', 5, 2],
    (True, 'ann', 'bo', 5, 2), (1, 'ann', 'bo', 5, False), (1, 'ann', 'bo', True, 2), {}, {'chain': []},
    (1, 'ann', 'bo', 5, 2, 3), ((1, 'ann', 'bo', 5, 2),), ([1], ['ann'], {}, None, ()),
]


HISTORY = [(1, 'ann', 'bo', 5, 3), (2, 'bo', 'cy', 4, 2), (3, 'ann', 'cy', 2, 2), (5, 'cy', 'di', 2, 1)]


def deep_value():
    """A value that is nested 50 levels deep."""
    value = ()
    for _ in range(50):
        value = [value]
    return value


# The kinds of wrong arguments that the document names, and some that are just outside of what it allows.
NOT_NAMES = [value for value in ODD_VALUES if value != 'ann'] + [
    deep_value(), 'Ann', 'an n', 'ann1', 'abcdefghi', ' ann', ['ann'], ('ann',), {'ann': 'ann'}]
NOT_POWERS = [value for value in ODD_VALUES if value != (1, 2)] + [
    deep_value(), (0, 0), (10, 0), (1, -1), (1, 21), (True, 1), (1, False), (1, 1, 1), [1, 1], ('1', 1), (1, None),
    (1, '1'), (None, 1), ((1, 1),), {1: 1}]
NOT_TIMES = [True, False, 10 ** 30 + 1, -10 ** 30 - 1, 10 ** 999, -10 ** 999, '', '1', 'ann', (), [], (1,), [1], {},
             deep_value()]
NOT_LISTS = [None, True, 0, 7, 10 ** 999, '', 'ann', {}, {(1, 'ann', 'bo', 5, 2): 1}]


def four_roll():
    return Roll('ann', grants=FOUR)


def history_roll():
    return Roll('ann', grants=HISTORY)


def person(number):
    """A name for each small number, in ascending order."""
    return 'p' + 'abcdefghijklmnopqrstuvwxyz'[number]


def layers(many=20, wide=3):
    """Layers of grants, ascending; each grant of a layer supports each one of the next layer."""
    rows = []
    for layer in range(many):
        giver = 'ann' if layer == 0 else person(layer)
        rows.append([(wide * layer + place, giver, person(layer + 1), 1, 20 - layer) for place in range(wide)])
    return rows


def layered_roll(rows):
    return Roll('ann', grants=[grant for row in rows for grant in row])


def random_rolls(many, most, seed=1):
    """Small rolls in which a lot of grants support one another, by a fixed seed."""
    chance = random.Random(seed)
    names = ['ann', 'bo', 'cy', 'di', 'ed']
    rolls = []
    for _ in range(many):
        owners = chance.sample(names[:3], chance.randint(1, 2))
        grants = {}
        for _ in range(chance.randint(0, most)):
            giver = chance.choice(names)
            takers = [name for name in names if name != giver and name not in owners]
            grant = (chance.randint(-3, 5), giver, chance.choice(takers), chance.randint(1, 3), chance.randint(0, 4))
            grants[grant] = True
        entries = list(grants)
        chance.shuffle(entries)
        rolls.append(Roll(*owners, grants=entries))
    return rolls


def dense_rolls(many, most, seed=1):
    """Small rolls in which most grants count and many of them have several chains, by a fixed seed."""
    chance = random.Random(seed)
    names = ['ann', 'bo', 'cy', 'di', 'ed']
    rolls = []
    for _ in range(many):
        grants = {}
        for _ in range(chance.randint(most // 2, most)):
            time = chance.randint(1, 9)
            giver = 'ann' if chance.random() < 0.9 - time / 5 else chance.choice(names[1:])
            taker = chance.choice([name for name in names[1:] if name != giver])
            grants[(time, giver, taker, chance.choice([2, 2, 2, 2, 3, 1]),
                    11 - time - chance.choice([0, 0, 0, 1]))] = True
        rolls.append(Roll('ann', grants=list(grants)))
    return rolls


def braided_rolls(many, most, seed=1):
    """Small rolls in which rights go on from one person to later ones, on ways that part and meet again."""
    chance = random.Random(seed)
    rolls = []
    for _ in range(many):
        grants = {(0, 'ann', person(1), 3, 20): True}
        for _ in range(chance.randint(most // 2, most)):
            giver = chance.randint(1, 7)
            taker = chance.randint(giver + 1, min(giver + 3, 8))
            name = 'ann' if chance.random() < 0.05 else person(giver)
            time = 2 * giver + chance.choice([0, 0, 0, 1, 2])
            grants[(time, name, person(taker), chance.choice([2, 2, 2, 1]),
                    20 - giver - chance.choice([0, 0, 1]))] = True
        rolls.append(Roll('ann', grants=list(grants)))
    return rolls


def circling_rolls(many, most, seed=1):
    """Small rolls in which rights come back to those who had them before, so that many grants are idle."""
    chance = random.Random(seed)
    names = ['bo', 'cy', 'di', 'ed']
    rolls = []
    for _ in range(many):
        grants = {(0, 'ann', 'bo', 3, 20): True}
        for time in range(1, most):
            giver = 'ann' if chance.random() < 0.1 else chance.choice([grant[2] for grant in grants])
            taker = chance.choice([name for name in names if name != giver])
            grants[(time - chance.choice([0, 0, 1]), giver, taker, chance.choice([2, 2, 2, 1, 3]),
                    20 - time - chance.choice([0, 0, 1]))] = True
        rolls.append(Roll('ann', grants=list(grants)))
    return rolls


def parts_of(grants):
    """Every list of some of these grants, in their order."""
    return [list(some) for size in range(len(grants) + 1) for some in combinations(grants, size)]


def plainly_supports(first, second):
    """What the document says of supporting, entry by entry."""
    return (first[2] == second[1] and first[0] < second[0]
            and first[3] >= second[3] and first[4] > second[4])


def all_chains(roll, grant):
    """Every chain for the grant, found by trying every list of grants in ascending order."""
    found = []
    for size in range(1, len(roll) + 1):
        for some in combinations(roll.grants, size):
            links = all(plainly_supports(*pair) for pair in zip(some, some[1:]))
            if some[-1] == grant and some[0][1] in roll.owners and links:
                found.append(list(some))
    return sorted(found)


def all_closed_sets(roll):
    """Every closed set of the roll, as ascending lists, found by trying every set of grants."""
    found = []
    for size in range(len(roll) + 1):
        for some in combinations(roll.grants, size):
            forced = [grant for grant in roll.grants if grant[1] in roll.owners
                      or any(plainly_supports(member, grant) for member in some)]
            if all(grant in some for grant in forced):
                found.append(list(some))
    return found


def plainly_counting(owners, grants):
    """The grants of these that count, ascending, found by going over all of them until none is added."""
    held = []
    more = True
    while more:
        more = [grant for grant in grants if grant not in held
                and (grant[1] in owners or any(plainly_supports(member, grant) for member in held))]
        held = held + more
    return sorted(held)


def chains_back(roll, grant):
    """Every chain for the grant, found by going back from its end."""
    if grant[1] in roll.owners:
        return [[grant]]
    return [way + [grant] for earlier in roll.grants if plainly_supports(earlier, grant)
            for way in chains_back(roll, earlier)]


def check_error(test, error, calls):
    """Each of the calls raises just this error."""
    for call in calls:
        with test.assertRaises(error) as caught:
            call()
        test.assertIs(type(caught.exception), error)


def pairs_of_rolls(many, most, seed=1):
    """Pairs of small rolls with the same owners and mostly the same grants, by a fixed seed."""
    chance = random.Random(seed)
    each = many // 4 + 1
    wholes = [roll for kind in (random_rolls, dense_rolls, braided_rolls, circling_rolls)
              for roll in kind(each, most, seed)]
    pairs = []
    for whole in wholes:
        # In a part of the pairs nearly all grants are common, so that all answers occur.
        common = chance.choice([0.6, 0.85, 0.95])
        sides = [chance.choice([0, 1]) if chance.random() > common else 2 for _ in whole.grants]
        pairs.append(tuple(whole.only([grant for grant, side in zip(whole.grants, sides) if side in (2, place)])
                           for place in (0, 1)))
    return pairs


def plain_powers(owners, grants, name, time):
    """The maximal powers of a person who is no owner at the time, if these are all grants."""
    pairs = {grant[3:] for grant in plainly_counting(owners, grants) if grant[2] == name and grant[0] <= time}
    return sorted(pair for pair in pairs
                  if not [more for more in pairs if more != pair and more[0] >= pair[0] and more[1] >= pair[1]])


def powers_differ(owners, mine, theirs):
    """Whether two lists of grants give somebody different maximal powers at some time."""
    places = {(grant[2], time[0]) for grant in mine + theirs for time in mine + theirs}
    held = plainly_counting(owners, mine), plainly_counting(owners, theirs)
    return any(plain_powers(owners, held[0], *place) != plain_powers(owners, held[1], *place) for place in places)
