"""Certificates of roads (point 87)."""

import random

from formroads.certificates import certificate, check_certificate
from formroads.errors import InvalidCertificate, NotJoined
from formroads.joining import road_summary, still
from formroads.rules import Rules
from formroads.ways import Way
from tests.kindsamples import ALL_RECORDS
from tests.roadsamples import SMALL, sample_schema, some_road, some_schema
from tests.samples import Case
from tests.test_summaries import plain_facts


def some_ways(chance, records, most):
    start = some_schema(chance, records, chance.randint(1, 4), ruled=True)
    return some_road(chance, records, start, chance.randint(1, most))


class CertificateTest(Case):
    def test_by_chance(self):
        for number, records in enumerate(ALL_RECORDS + [SMALL]):
            chance = random.Random(number)
            for _ in range(25):
                ways = some_ways(chance, records, 5)
                lines = certificate(ways)
                self.assertIsInstance(lines, list)
                self.assertEqual(lines[0], still(ways[0].start).facts())
                self.assertEqual(lines[1:], [plain_facts(ways[:number]) for number in range(1, len(ways) + 1)])
                self.assertEqual(lines[-1], road_summary(ways).facts())
                self.assertIsNone(check_certificate(ways, lines))

    def test_not_joined(self):
        flat = sample_schema(((0, 1),), ("day", "?"))
        deep = sample_schema(((0,), (1,)), ("day", "?"))
        way = Way("go", "red", flat, deep, [("nest", 0, (1,))])
        ruled = Way("on", "red", deep.with_rules(Rules((0,))), deep)
        for ways in ([], [way, way], [way, ruled]):
            self.raises_unchanged(NotJoined, certificate, ways)
            self.raises_unchanged(NotJoined, check_certificate, ways, [])
            self.raises(NotJoined, check_certificate, ways, certificate([way]))


class CheckCertificateTest(Case):
    def wrong_at(self, ways, lines):
        return self.raises(InvalidCertificate, check_certificate, ways, lines).line

    def test_by_chance(self):
        for number, records in enumerate(ALL_RECORDS + [SMALL]):
            chance = random.Random(number)
            for _ in range(10):
                ways = some_ways(chance, records, 4)
                lines = certificate(ways)
                for at, line in enumerate(lines):
                    self.assertEqual(self.wrong_at(ways, lines[:at]), at)
                    labels = line[3] + ("other",)
                    changed = lines[:at] + [(*line[:3], labels, *line[4:])] + lines[at + 1:]
                    self.assertEqual(self.wrong_at(ways, changed), at)
                    # A line that is changed comes before lines that are missing or too many.
                    self.assertEqual(self.wrong_at(ways, changed + lines[-1:]), at)
                    self.assertEqual(self.wrong_at(ways, changed[:at + 1]), at)
                self.assertEqual(self.wrong_at(ways, lines + lines[-1:]), len(ways) + 1)
                self.assertEqual(self.wrong_at(ways, lines + [()] * 3), len(ways) + 1)

    def test_lines_that_are_left_out_or_stand_twice(self):
        flat = sample_schema(((0, 1),), ("day", "?"))
        deep = sample_schema(((0,), (1,)), ("day", "?"))
        ways = [Way("go", "red", flat, deep, [("nest", 0, (1,))]), Way("on", "blue", deep, flat, [("unnest", 0)])]
        lines = certificate(ways)
        self.assertEqual(self.wrong_at(ways, []), 0)
        self.assertEqual(self.wrong_at(ways, lines[1:]), 0)
        self.assertEqual(self.wrong_at(ways, lines[:1] + lines[2:]), 1)
        self.assertEqual(self.wrong_at(ways, lines[:2]), 2)
        self.assertEqual(self.wrong_at(ways, lines[:1] + lines), 1)
        self.assertEqual(self.wrong_at(ways, certificate(ways[:1])), 2)
        self.assertEqual(self.wrong_at(ways[:1], lines), 2)

    def test_each_fact_counts(self):
        flat = sample_schema(((0, 1), (2,)), ("?", "?", "day"))
        deep = sample_schema(((0,), (1, 2)), ("day", "?", "month"))
        ways = [Way("go", "red", flat, deep, [("nest", 0, (1,)), ("unnest", 1)])]
        lines = certificate(ways)
        for at in range(len(lines[1])):
            changed = lines[:1] + [(*lines[1][:at], ("changed",), *lines[1][at + 1:])]
            self.assertEqual(self.wrong_at(ways, changed), 1)
        other = Way("go", "red", flat, deep.with_rules(Rules((0,))), ways[0].steps)
        self.assertEqual(self.wrong_at([other], lines), 1)

    def test_freshness(self):
        chance = random.Random(6)
        for _ in range(10):
            ways = some_ways(chance, SMALL, 3)
            self.unchanging(certificate, ways)
            self.unchanging(check_certificate, ways, certificate(ways))
            self.raises_unchanged(InvalidCertificate, check_certificate, ways, certificate(ways)[:-1])
