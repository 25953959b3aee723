"""Verdicts over pairs of tables: whether they are safe for threads, with a name or a run that shows it."""

from shadeguards.changes import ROOT_WORDS
from shadeguards.errors import InvalidCertificate, InvalidRoots
from shadeguards.judging import is_verdict
from shadeguards.pairs import check_same_roots, is_safe_with, pair_fits, pair_ways
from shadeguards.threadruns import losing_threads, play_threads


def thread_ways(roots, *, scanning="whole"):
    """Return the ways in which a pair with these roots, any value, is safe."""
    if not isinstance(roots, str) or roots not in ROOT_WORDS:
        raise InvalidRoots(roots)
    return pair_ways(roots, scanning)


def fits_threads(early, late, way):
    """Return True if the way fits the pair, whatever its roots are."""
    return pair_fits(early, late, way)


def is_safe_pair(early, late, *, scanning="whole"):
    """Return True if the pair is safe."""
    check_same_roots(early, late)
    return is_safe_with(early, late, scanning)


def judge_threads(early, late, *, scanning="whole"):
    """Return "yes" and the name of the first way that fits the pair, or "no" and a run that loses an object."""
    check_same_roots(early, late)
    for way in pair_ways(late.roots, scanning):
        if pair_fits(early, late, way):
            return ("yes", way[3])
    return ("no", losing_threads(early, late, scanning=scanning))


def check_way_name(early, late, name, scanning):
    """Return True if a way with this name, any value, fits the pair."""
    for way in pair_ways(late.roots, scanning):
        if way[3] == name and pair_fits(early, late, way):
            return True
    raise InvalidCertificate("name")


def check_threads(early, late, verdict, *, scanning="whole"):
    """Return True if the verdict, any value, is right."""
    check_same_roots(early, late)
    if not is_verdict(verdict):
        raise InvalidCertificate("verdict")
    word, shown = verdict
    if word == "yes":
        return check_way_name(early, late, shown, scanning)
    cycle = play_threads(early, late, shown, scanning=scanning)
    if cycle.phase != "ended":
        raise InvalidCertificate("end")
    if len(cycle.lost) == 0:
        raise InvalidCertificate("safe")
    return True
