"""The facts A1 to L7 on webs that joining and live webs make: their tests, with such webs in the place of others."""

import re
import unittest
from unittest import mock

from signrounds.webs import is_web
from tests import (
    test_alike, test_camps, test_choices, test_class_numbers, test_classes, test_doubled, test_dyes,
    test_facts_of_webs, test_free_sets, test_lumps, test_rests, test_round_signs, test_threes, test_tight, test_trouble,
    test_weights,
)
from tests.made import made_all_tied, made_webs
from tests.samples import pairs_tied, web_of

MODULES = [
    test_facts_of_webs, test_camps, test_alike, test_round_signs, test_classes, test_class_numbers, test_trouble,
    test_rests, test_lumps, test_tight, test_free_sets, test_weights, test_threes, test_dyes, test_choices,
    test_doubled,
]
FACT = re.compile("test_[a-l][0-9]_")
MADE, ALL_TIED = made_webs(), made_all_tied()


def small_webs(most=4):
    for many in range(1, most + 1):
        yield from MADE[many]


def drawn_webs(seed, each=4, least=5, most=10):
    for many in range(least, most + 1):
        several = MADE[many]
        for at in range(min(each, len(several))):
            yield several[(seed + 7 * at) % len(several)]


def all_ties_webs(many):
    for web in MADE[many]:
        yield web_of(many, {pair: 1 for pair in pairs_tied(web)})


def all_tied_webs(seed, least=5, most=10):
    return [web for many in range(1, most + 1) if many < 5 or many >= least for web in ALL_TIED[many]]


INSTEAD = {"small_webs": small_webs, "drawn_webs": drawn_webs, "all_ties_webs": all_ties_webs}


def made_case(module, case):
    """The tests of this class, in whose file webs that are made stand in the place of others."""
    names = dict(INSTEAD, some_webs=all_tied_webs) if module is test_threes else INSTEAD

    def set_up(self):
        for name, function in names.items():
            if hasattr(module, name):
                patch = mock.patch.object(module, name, function)
                patch.start()
                self.addCleanup(patch.stop)

    return type("Made" + module.__name__.split("_", 1)[1] + case.__name__, (case,), {"setUp": set_up})


class Made(unittest.TestCase):
    def test_there_are_many(self):
        for many in range(1, 11):
            self.assertTrue(all(is_web(web) and len(web) == many for web in MADE[many] + ALL_TIED[many]))
            self.assertGreaterEqual(len(MADE[many]), (1, 3, 10)[min(many, 3) - 1], many)
        self.assertGreater(sum(map(len, MADE.values())), 150)
        self.assertGreater(sum(map(len, ALL_TIED.values())), 40)


def load_tests(loader, tests, pattern):
    suite = unittest.TestSuite([Made("test_there_are_many")])
    for module in MODULES:
        found = 0
        for case in vars(module).values():
            if isinstance(case, type) and issubclass(case, unittest.TestCase):
                names = [name for name in loader.getTestCaseNames(case) if FACT.match(name)]
                made = made_case(module, case)
                suite.addTests([made(name) for name in names])
                found += len(names)
        assert found, module
    return suite


if __name__ == "__main__":
    unittest.main()
