"""What is promised of all functions together: their signatures, keywords, and answers that share nothing."""

import copy
import importlib
import inspect
import unittest

from grantroll.cores import alike_paper, useful_paper
from grantroll.counting import why
from grantroll.hanging import hanging_paper
from grantroll.joins import same_always, same_under_adding
from grantroll.ledger import Ledger
from grantroll.rolls import Roll
from grantroll.strength import strength
from tests.samples import FOUR, HISTORY, four_roll, history_roll, layered_roll, layers, person

SIGNATURES = {
    'grants': ['grant_error(value)', 'supports(first, second)'],
    'counting': ['counts(roll, grant)', 'shows(roll, grant, value)', 'counting_grants(roll)', 'chains(roll, grant)',
                 'chain_count(roll, grant)', 'why(roll, grant)'],
    'powers': ['has(roll, name, power, *, at=None)', 'powers_of(roll, name, *, at=None)', 'steps_of(roll, name)',
               'holders(roll, power, *, at=None)', 'since(roll, name, power)'],
    'revoking': ['without(roll, grants)', 'shortest(roll, grants)', 'lost_by(roll, grants)',
                 'lost_powers(roll, grants)'],
    'hanging': ['hanging(roll, grant)', 'hanging_persons(roll, grant)', 'hanging_tree(roll)', 'hanging_paper(roll)',
                'check_hanging(roll, paper)'],
    'strength': ['strength(roll, name, power, *, at=None)', 'check_strength(roll, name, power, answer, *, at=None)',
                 'keeps(roll, name, power, count, *, at=None)'],
    'cores': ['core(roll)', 'useful_paper(roll, grant)', 'check_useful(roll, grant, paper)', 'alike_paper(one, other)',
              'check_alike(one, other, paper)', 'gives_no_more(one, other)', 'same_under_revoking(one, other)',
              'separates(one, other, grants)'],
    'standing': ['is_standing(roll, grants)', 'standing_part(roll, grants)', 'standing_at(roll, index)',
                 'standing_count(roll)', 'standing_index(roll, grants)', 'build_orders(roll)',
                 'minimal_sets(roll, grant)'],
    'joins': ['later_grant(one, other, name)', 'same_under_adding(one, other)', 'same_always(one, other)',
              'adding_tells(one, other, value)', 'always_tells(one, other, value)'],
}
GENERATORS = ['chains', 'minimal_sets']
METHODS = ['give(self, giver, taker, level, passes)', 'revoke(self, grant)', 'leave(self, name)', 'back(self)',
           'again(self)', 'attempt(self, deeds)']
PREDICATES = ['supports', 'counts', 'shows', 'has', 'keeps', 'separates', 'is_standing', 'adding_tells', 'always_tells']
IDLE = (6, 'di', 'cy', 1, 0)


def functions():
    for file, signatures in SIGNATURES.items():
        for signature in signatures:
            name = signature.split('(')[0]
            yield getattr(importlib.import_module('grantroll.' + file), name), signature


def settings():
    """For several rolls a value for each argument's name; of a roll that is equal to another one, too."""
    rolls = [(history_roll(), history_roll().only(HISTORY[:3]), HISTORY[1]),
             (Roll('ann', grants=HISTORY + [IDLE]), history_roll(), IDLE), (four_roll(), four_roll(), FOUR[1]),
             (four_roll(), four_roll().only(FOUR[1:]), FOUR[3])]
    for one, other, grant in rolls:
        yield {'roll': one, 'one': one, 'other': other, 'grant': grant, 'grants': list(one.grants[:2]),
               'value': grant, 'first': HISTORY[0], 'second': HISTORY[1], 'name': 'cy', 'power': (2, 1), 'at': 3,
               'count': 1, 'index': 1}


def special(name, given):
    """The arguments that are answers of other functions, for the function of this name."""
    one, other, roll = given['one'], given['other'], given['roll']
    if name == 'shows':
        return {'value': why(roll, given['grant'])}
    if name == 'check_hanging':
        return {'paper': hanging_paper(roll)}
    if name == 'check_strength':
        return {'answer': strength(roll, given['name'], given['power'], at=given['at'])}
    if name == 'check_useful':
        return {'paper': useful_paper(roll, given['grant'])}
    if name == 'check_alike':
        return {'paper': alike_paper(one, other)}
    if name == 'adding_tells':
        return {'value': same_under_adding(one, other)}
    if name == 'always_tells':
        return {'value': same_always(one, other)}
    if name == 'later_grant':
        return {'name': 'newcomer'}
    return {}


def calls():
    """Every function, with the arguments for it by their names, for several rolls."""
    for given in settings():
        for function, _ in functions():
            name = function.__name__
            names = inspect.signature(function).parameters
            if name in ('hanging', 'hanging_persons') and given['grant'] == FOUR[1]:
                continue
            values = {**given, **special(name, given)}
            if name == 'standing_index':
                values['grants'] = list(given['roll'].grants[:1])
            yield function, {word: values[word] for word in names}


def answer_of(function, given):
    answer = function(**given)
    return list(answer) if function.__name__ in GENERATORS else answer


def plainly(value):
    """A value with the grants of its rolls instead of them."""
    return (value.owners, value.grants) if isinstance(value, Roll) else value


def containers(value):
    """All lists and dicts in a value."""
    found = [value] if isinstance(value, (list, dict)) else []
    if isinstance(value, dict):
        found += [each for pair in value.items() for part in pair for each in containers(part)]
    elif isinstance(value, (list, tuple)):
        found += [each for part in value for each in containers(part)]
    return found


def change(value):
    """Changes all lists and dicts in a value."""
    for each in containers(value):
        if isinstance(each, dict):
            each['changed'] = True
        else:
            each.append('changed')


class SignaturesTest(unittest.TestCase):
    def test_functions(self):
        self.assertEqual(len(list(functions())), 45)
        for function, signature in functions():
            self.assertEqual(function.__name__ + str(inspect.signature(function)), signature)
            self.assertIs(inspect.isgeneratorfunction(function), function.__name__ in GENERATORS)

    def test_defined_where_they_are_listed(self):
        for file, signatures in SIGNATURES.items():
            for signature in signatures:
                module = importlib.import_module('grantroll.' + file)
                self.assertEqual(getattr(module, signature.split('(')[0]).__module__, 'grantroll.' + file)
        self.assertEqual([Roll.__module__, Ledger.__module__], ['grantroll.rolls', 'grantroll.ledger'])

    def test_classes(self):
        self.assertEqual([name + str(inspect.signature(vars(Ledger)[name])) for name in
                          ('give', 'revoke', 'leave', 'back', 'again', 'attempt')], METHODS)
        for kind, names in [(Ledger, ['now', 'roll', 'log']), (Roll, ['owners', 'grants', 'persons'])]:
            for name in names:
                self.assertIsInstance(vars(kind)[name], property)
        self.assertLessEqual({'only', 'read', '__str__', '__len__', '__contains__', '__eq__', '__or__', '__and__',
                              '__sub__', 'MOST_GRANTS'}, set(vars(Roll)))
        self.assertEqual(str(inspect.signature(Roll)), '(*owners, grants=())')
        self.assertEqual(str(inspect.signature(Ledger)), '(*owners)')


class KeywordsTest(unittest.TestCase):
    def test_in_another_order(self):
        many = 0
        for function, given in calls():
            turned = dict(reversed(given.items()))
            many += len(given) > 1
            plain = [value for word, value in given.items() if word != 'at']
            last = {'at': given['at']} if 'at' in given else {}
            expected = function(*plain, **last)
            found = function(**turned)
            if function.__name__ in GENERATORS:
                expected, found = list(expected), list(found)
            self.assertEqual(plainly(found), plainly(expected), function.__name__)
        self.assertGreater(many, 100)

    def test_at_by_keyword_only_and_left_out(self):
        for function, given in calls():
            if 'at' in given:
                ends = {word: value for word, value in given.items() if word != 'at'}
                self.assertEqual(function(**ends), function(**ends, at=None))
                with self.assertRaises(TypeError):
                    function(*ends.values(), None)

    def test_classes_and_methods(self):
        self.assertEqual(Roll('ann', grants=FOUR), four_roll())
        self.assertEqual(four_roll().only(grants=FOUR[:1]), Roll('ann', grants=FOUR[:1]))
        self.assertEqual(Roll.read(text=str(four_roll())), four_roll())
        ledger = Ledger('ann')
        grant = ledger.give(passes=2, level=5, taker='bo', giver='ann')
        self.assertEqual(grant, FOUR[0])
        self.assertEqual(ledger.revoke(grant=grant), [grant])
        self.assertEqual(ledger.leave(name='bo'), [])
        self.assertEqual(ledger.attempt(deeds=[('leave', 'bo')]), [[]])


class AnswersTest(unittest.TestCase):
    def test_nothing_is_shared(self):
        for function, given in calls():
            name = function.__name__
            before = copy.deepcopy({word: plainly(value) for word, value in given.items()})
            first = answer_of(function, given)
            kept = copy.deepcopy(plainly(first))
            inside = containers(first)
            self.assertEqual(len({id(each) for each in inside}), len(inside), name)
            theirs = {id(each) for value in given.values() for each in containers(value)}
            self.assertFalse(theirs & {id(each) for each in inside}, name)
            change(first)
            self.assertEqual({word: plainly(value) for word, value in given.items()}, before, name)
            self.assertEqual(plainly(answer_of(function, given)), kept, name)

    def test_plain_values(self):
        for function, given in calls():
            answer = answer_of(function, given)
            if function.__name__ in PREDICATES:
                self.assertIn(answer, (True, False))
                self.assertIs(type(answer), bool, function.__name__)
            for each in containers(answer):
                self.assertIn(type(each), (list, dict))
            if isinstance(answer, (int, tuple)):
                self.assertIn(type(answer), (int, bool, tuple))

    def test_arguments_that_are_changed_afterwards(self):
        grants = list(FOUR)
        roll = Roll('ann', grants=grants)
        part = roll.only(grants)
        change(grants)
        self.assertEqual([roll, part], [four_roll()] * 2)

    def test_generators_that_go_on_after_a_change(self):
        roll = layered_roll(layers(4))
        for function in [importlib.import_module('grantroll.counting').chains,
                         importlib.import_module('grantroll.standing').minimal_sets]:
            expected = list(function(roll, roll.grants[11]))
            self.assertEqual(len(expected), 27)
            found = []
            for way in function(roll, roll.grants[11]):
                found.append(list(way))
                way.clear()
            self.assertEqual(found, expected)


class EqualArgumentsTest(unittest.TestCase):
    def test_equal_arguments_equal_answers(self):
        for (function, given), (_, again) in zip(calls(), calls()):
            self.assertEqual(plainly(answer_of(function, given)), plainly(answer_of(function, again)))

    def test_the_order_of_owners_and_grants_does_not_matter(self):
        grants = list(layered_roll(layers(4)).grants)
        one = Roll('ann', 'zoe', grants=grants)
        other = Roll('zoe', 'ann', grants=grants[::-1])
        for function, signature in functions():
            if 'one' in signature or 'value' in signature or 'paper' in signature or 'answer' in signature:
                continue
            given = {'grant': grants[7], 'grants': grants[:1], 'name': person(3), 'power': (1, 18), 'at': 7, 'count': 1,
                     'index': 5, 'first': grants[0], 'second': grants[3]}
            names = [name for name in inspect.signature(function).parameters if name != 'roll']
            if 'roll' in signature:
                answers = [answer_of(function, {'roll': roll, **{name: given[name] for name in names}})
                           for roll in (one, other)]
                self.assertEqual(*[plainly(answer) for answer in answers])


if __name__ == '__main__':
    unittest.main()
