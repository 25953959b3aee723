"""What a pair of tables needs to keep an invariant of cycles with threads."""

from shadeguards.needs import LIT_FRESH, guards, meets
from shadeguards.threadinvariants import check_thread_invariant

OLD_WHITE = (("old", "white"),)
OLD_GREY = (("old", "grey"),)


def own_needs(name):
    """Return what the early table and the late one need besides the guards of the early one."""
    if name == "registers":
        return (), (LIT_FRESH, (("load", "grey"),))
    if name == "held":
        return (OLD_GREY,), (LIT_FRESH, (("load", "white"),), OLD_GREY)
    return (OLD_WHITE, OLD_GREY), (LIT_FRESH, OLD_WHITE, OLD_GREY)


def needs_of(which, asked):
    """Return the needs of a table as needs of a pair in which it is this one."""
    return tuple([tuple([(which, alternative) for alternative in need]) for need in asked])


def thread_needs(name, *, scanning="whole"):
    """Return the needs of the invariant with this name, any value."""
    check_thread_invariant(name)
    if name == "strong":
        return needs_of("early", guards(scanning)) + needs_of("late", guards(scanning))
    of_early, of_late = own_needs(name)
    return needs_of("early", guards(scanning) + of_early) + needs_of("late", of_late)


def meets_pair(early, late, need):
    """Return True if the pair meets the need."""
    # All alternatives of a need name the same table.
    which = need[0][0]
    return meets(early if which == "early" else late, [alternative for _, alternative in need])


def missing_thread_needs(early, late, name, *, scanning="whole"):
    """Return the needs of the invariant with this name, any value, that the pair does not meet."""
    asked = thread_needs(name, scanning=scanning)
    return tuple([need for need in asked if not meets_pair(early, late, need)])


def is_thread_kept(early, late, name, *, scanning="whole"):
    """Return True if the pair keeps the invariant with this name, any value."""
    return len(missing_thread_needs(early, late, name, scanning=scanning)) == 0
