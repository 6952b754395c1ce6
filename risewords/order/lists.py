"""The lists of an order: all places, each ahead of those below it. Nothing that is passed is checked here.

A set of places is kept as an integer, with the bit of each of its places.
"""


def all_pairs(size, pairs):
    """The ascending tuple of the pairs of a low and a high place, and of all that follow from them."""
    above = _sets_above(size, pairs)
    for middle in range(size):
        beyond = above[middle]
        above = [places | beyond if places >> middle & 1 else places for places in above]
    return tuple([(low, high) for low in range(size) for high in range(size) if above[low] >> high & 1])


def _sets_above(size, pairs):
    """The list of the sets of the places that are told to be above each place."""
    above = [0] * size
    for low, high in pairs:
        above[low] = above[low] | 1 << high
    return above


def _open_places(listed, above):
    """The ascending list of the places that can stand next, behind a set of listed places."""
    return [place for place, ahead in enumerate(above) if ahead & listed == ahead and not listed >> place & 1]


def each_list(size, pairs):
    """Yields all lists, ascending."""
    above = _sets_above(size, pairs)
    waiting = [((), 0)]
    while waiting:
        places, listed = waiting.pop()
        if len(places) == size:
            yield places
        # The least place is taken off the end first.
        for place in _open_places(listed, above)[::-1]:
            waiting.append(((*places, place), listed | 1 << place))


def list_words(colours, pairs):
    """A dict from the words of all lists, the colours of their places, to how often they come."""
    return _words_behind(0, colours, _sets_above(len(colours), pairs), {})


def _words_behind(listed, colours, above, known):
    """The words of all ways to go on behind a set of listed places; `known` keeps them."""
    if listed == (1 << len(colours)) - 1:
        return {"": 1}
    if listed not in known:
        found = {}
        for place in _open_places(listed, above):
            colour = colours[place]
            for word, count in _words_behind(listed | 1 << place, colours, above, known).items():
                longer = colour + word
                found[longer] = found.get(longer, 0) + count
        known[listed] = found
    return known[listed]
