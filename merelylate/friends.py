"""Letters that an enemy and a friend choose together: whether the friend can keep off the paradoxes."""

from merelylate.checks import check_mill, check_split
from merelylate.live import Live
from merelylate.subsets import MOST_SETS, Subsets


def keeps_on(mill, split):
    """Whether the friend can go on for ever from the start so that no paradox is read."""
    return 0 not in Game(mill, split).ticks


def friend_plan(mill, split):
    """For each set that the friend's play comes to, its least letters by which it keeps on; None if it doesn't."""
    game = Game(mill, split)
    if 0 in game.ticks:
        return None
    plan = {}
    known = {0: True}
    waiting = [0]
    while waiting:
        number = waiting.pop()
        letters = game.letters_kept(number)
        plan[number] = letters
        for letter in letters:
            after = game.sets.onto[number][letter]
            if after not in known:
                known[after] = True
                waiting.append(after)
    return tuple(sorted([(game.sets.windows_in(number), letters) for number, letters in plan.items()]))


def enemy_ticks(mill, split):
    """The least number of ticks within which the enemy can get a paradox read, None if it can't."""
    return Game(mill, split).ticks.get(0)


class Game:
    """The sets of live windows from which the enemy gets the empty one, with how many ticks that takes."""

    def __init__(self, mill, split):
        check_mill(mill)
        check_split(mill, split)
        self.parts = split
        self.sets = Subsets(Live(mill), MOST_SETS)
        numbers = range(len(self.sets.masks))
        self.ticks = {number: 0 for number in numbers if self.sets.is_lost(number)}
        self.find_ticks([number for number in numbers if number not in self.ticks])

    def find_ticks(self, others):
        """Find the sets from which the enemy gets the empty one, those with less ticks first."""
        left = others
        fresh = list(self.ticks)
        many = 0
        while fresh:
            many += 1
            fresh = [number for number in left if self.enemy_takes(number)]
            for number in fresh:
                self.ticks[number] = many
            left = [number for number in left if number not in self.ticks]

    def enemy_takes(self, number):
        """Whether the enemy can pick letters all of which lead a set to those from which it gets the empty one."""
        onto = self.sets.onto[number]
        return any([all([onto[letter] in self.ticks for letter in part]) for part in self.parts])

    def letters_kept(self, number):
        """For each tuple of the split the least letter by which the friend keeps on from a set from which it does."""
        onto = self.sets.onto[number]
        return tuple([[letter for letter in part if onto[letter] not in self.ticks][0] for part in self.parts])
