"""Letters that come by chance: how likely a paradox is, and how many ticks are waited for."""

from merelylate.chains import Chance
from merelylate.checks import check_mill, check_ticks, check_weights
from merelylate.live import Live
from merelylate.masks import mask_of
from merelylate.mates import honest_mates
from merelylate.ratios import lowest
from merelylate.subsets import Subsets
from merelylate.tellings import Owed

MOST_STATES = 200


def lost_within(mill, weights, ticks):
    """The chance that the letters of the first so many ticks are a paradox."""
    check_mill(mill)
    check_weights(mill, weights)
    check_ticks(ticks)
    live = Live(mill)
    # For each set how many words, each as often as its weights say, lead to it.
    counts = {mask_of(live.starts): 1}
    whole = 1
    for _ in range(ticks):
        fresh = {}
        for mask, many in counts.items():
            for letter, weight in enumerate(weights):
                after = live.mask_behind(mask, letter)
                fresh[after] = fresh.get(after, 0) + many * weight
        counts = fresh
        whole = whole * sum(weights)
    return lowest(counts.get(0, 0), whole)


def ever_lost(mill, weights):
    """The chance that some beginning of the letters is a paradox."""
    check_mill(mill)
    check_weights(mill, weights)
    sets = Subsets(Live(mill), MOST_STATES)
    chance = Chance(sets.onto, weights)
    # The empty set leads to itself alone.
    return chance.mean_at_end([(int(sets.is_lost(lot[0])), 1) for lot in chance.lots])


def mean_wait(mill, weights):
    """How many ticks of a word aren't sure at its end, from the first one on, in the mean and in the long run."""
    check_mill(mill)
    check_weights(mill, weights)
    owed = Owed(honest_mates(mill).live, MOST_STATES)
    chance = Chance([[after for after, _ in state] for state in owed.table], weights)
    return chance.mean_at_end([chance.mean_within(lot, owed.numbers_owed()) for lot in chance.lots])
