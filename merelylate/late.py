"""Late mills: ordinary machines that tell what an honest mill does, some ticks later."""

from merelylate.checks import check_mill
from merelylate.errors import NotAlike
from merelylate.lateness import late_table, tells_late
from merelylate.likeness import Couple
from merelylate.machines import check_late, is_late, run, smallest
from merelylate.mates import honest_mates


def run_late(machine, letters):
    """What a late mill tells at each letter."""
    check_late(machine)
    return run(machine, letters)


def late_mill(mill):
    """The late mill with the fewest states that tells what an honest mill does, the least delay late."""
    check_mill(mill)
    mates = honest_mates(mill)
    return smallest(late_table(mates.live, mates.delay()))


def shows_late(mill, machine):
    """Whether a value is a late mill that tells what an honest mill does, the least delay late."""
    check_mill(mill)
    mates = honest_mates(mill)
    return is_late(machine) and tells_late(machine, mates.live, mates.delay())


def are_alike(one, other):
    """Whether two honest mills tell the same at each tick for all inputs."""
    check_both(one, other)
    return Couple(one, other).tell_the_same()


def unlike_word(one, other):
    """The least of the shortest words at whose last letter the late mills of two mills tell unlike things."""
    check_both(one, other)
    return Couple(one, other).least_word()


def check_both(one, other):
    """Raise an error unless values are mills of as many letters and told names."""
    check_mill(one)
    check_mill(other)
    if one[0] != other[0] or len(one[2]) != len(other[2]):
        raise NotAlike("not as many letters, or not as many told names")
