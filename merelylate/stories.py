"""Ways of pairs of live windows from the start to where they tell unlike things, and on from there."""

from merelylate.masks import numbers_in
from merelylate.pairs import ENDLESS


def way_to(mates, pair, number):
    """A way of pairs from the first letter on to a pair that comes in the round of that number."""
    way = [pair]
    for at in range(number - 1, -1, -1):
        way.append(source(mates.pairs, mates.rounds[at], way[-1]))
    return way[::-1]


def source(pairs, layer, pair):
    """The first pair of a layer that a letter leads to another pair."""
    for first, mask in layer.items():
        for second in numbers_in(mask):
            for letter in range(pairs.one.many_letters):
                if pairs.leads((first, second), letter, pair):
                    return (first, second)
    return None


def nearest_apart(mates, depth):
    """The first pair, with its round's number, that tells unlike things and has a depth; None without."""
    for number, layer in enumerate(mates.rounds):
        for pair in mates.pairs.unlike(layer):
            if mates.pairs.depth(pair) == depth:
                return pair, number
    return None


def latest_story(mates, delay):
    """Pairs that tell unlike things delay ticks before the end, and no letters more can be alike."""
    pair, number = nearest_apart(mates, delay - 1)
    way = way_to(mates, pair, number)
    for depth in range(delay - 2, -1, -1):
        way.append(after_of_depth(mates.pairs, way[-1], depth))
    return way


def after_of_depth(pairs, pair, depth):
    """A pair of a depth to which a letter leads another one."""
    for letter in range(pairs.one.many_letters):
        for after in pairs.afters(pair, letter):
            if pairs.depth(after) == depth:
                return after
    return None


def some_lasso(mates):
    """A stem and a loop of pairs, two histories that tell unlike things; None without a free choice."""
    found = nearest_apart(mates, ENDLESS)
    if found is None:
        return None
    way = way_to(mates, found[0], found[1])
    known = {}
    now = way.pop()
    while now not in known:
        known[now] = len(way)
        way.append(now)
        now = after_of_depth(mates.pairs, now, ENDLESS)
    return way[:known[now]], way[known[now]:]
