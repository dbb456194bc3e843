"""Best matchings of members and places."""


class Matching:
    """A place for each member, with the greatest sum of weights, and prices that show that it is the greatest."""

    def __init__(self, places, total, member_prices, place_prices):
        self.places = places
        self.total = total
        self.member_prices = member_prices
        self.place_prices = place_prices

    def __eq__(self, other):
        return (
            isinstance(other, Matching)
            and self.places == other.places
            and self.total == other.total
            and self.member_prices == other.member_prices
            and self.place_prices == other.place_prices
        )


def best_matching(weights):
    """Return the matching of weights[member][place] with the greatest sum."""
    member_prices = [0] * len(weights)
    place_prices = [0] * len(weights)
    member_at = [None] * len(weights)
    for member in range(len(weights)):
        _add_member(weights, member_prices, place_prices, member_at, member)
    places = [0] * len(weights)
    for place, member in enumerate(member_at):
        places[member] = place
    total = sum([weights[member][place] for member, place in enumerate(places)])
    return Matching(places, total, member_prices, place_prices)


def _add_member(weights, member_prices, place_prices, member_at, member):
    """Give a member a place, and others among those that have one another place.

    For the members that have a place, the price of a member plus that of a
    place is at least the weight, and it is the weight where the member has
    that place. The price of the new member may be anything before.
    """
    waiting = list(range(len(weights)))
    reached = []
    spare = [None] * len(weights)
    from_member = [None] * len(weights)
    newest = member
    while newest is not None:
        for place in waiting:
            left = member_prices[newest] + place_prices[place] - weights[newest][place]
            if spare[place] is None or left < spare[place]:
                spare[place] = left
                from_member[place] = newest
        least = min([spare[place] for place in waiting])
        place = [found for found in waiting if spare[found] == least][0]
        _shift_prices(member_prices, place_prices, member_at, member, reached, least)
        for other in waiting:
            spare[other] -= least
        waiting.remove(place)
        reached.append(place)
        newest = member_at[place]
    _move_up(member_at, from_member, member, place)


def _shift_prices(member_prices, place_prices, member_at, member, reached, step):
    """Lower the prices of the members so far by a step, and raise those of their places."""
    member_prices[member] -= step
    for place in reached:
        member_prices[member_at[place]] -= step
        place_prices[place] += step


def _move_up(member_at, from_member, member, free_place):
    """Give the free place to the member that it was reached from, its old place likewise, and so on."""
    place = free_place
    while from_member[place] != member:
        mover = from_member[place]
        left = member_at.index(mover)
        member_at[place] = mover
        place = left
    member_at[place] = member
