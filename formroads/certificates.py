"""Certificates: the facts of the beginnings of a road."""

from formroads.errors import InvalidCertificate
from formroads.joining import joined, still, way_summary
from formroads.roads import check_road


def certificate(ways):
    """The facts of the summaries of the first ways of the road, from no way on."""
    check_road(ways)
    summary = still(ways[0].start)
    lines = [summary.facts()]
    for way in ways:
        summary = joined(summary, way_summary(way))
        lines.append(summary.facts())
    return lines


def check_certificate(ways, lines):
    """Checks that the lines are the certificate of the road."""
    wanted = certificate(ways)
    for number, line in enumerate(wanted):
        if number >= len(lines) or lines[number] != line:
            raise InvalidCertificate(number)
    if len(lines) > len(wanted):
        raise InvalidCertificate(len(wanted))
