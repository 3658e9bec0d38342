"""What a market and a claim come to in the end: rings that owe, stands that lead to them, and limits elsewhere."""

from heardquotes.fairness import moment_at
from heardquotes.policies import flow_by_policy, settled
from heardquotes.scenes import Scene
from heardquotes.ways import words_from


class Prospect:
    """Rings that owe, so many that each endless stand leads to one of them; the limits of all other stands."""

    def __init__(self, market, claim):
        scene = Scene(market, claim)
        rest = list(market.leads())
        values, policy, ring = settled(scene, rest)
        live = {} if ring is None else live_leads(market)
        rings = []
        while ring is not None:
            rings.append(ring)
            rest = [stand for stand in rest if not leads_into(live, stand, ring)]
            values, policy, ring = settled(scene, rest)
        self._leads = market.leads()
        self._live = live
        self._scene = scene
        self._rings = rings
        self._values = values
        self._policy = policy

    def limits(self):
        """The sorted dict from the stands that are not endless to their limits."""
        return {stand: self._values[stand] for stand in sorted(self._values)}

    def limit_at(self, stand):
        """None if the stand is endless."""
        return self._values.get(stand)

    def trail(self, stand):
        return way_to(self._rings, words_from(self._leads, stand))

    def lead(self, stand):
        """A lead from the stand, None if there is none; without rings nothing has to be live."""
        return way_to(self._rings, words_from(self._live, stand)) if self._rings else None

    def kind(self, stand):
        if stand not in self._values:
            return "endless"
        return "sound" if self.trail(stand) is None else "bounded"

    def flow(self, stand):
        """A folded flow that begins at the stand and is worth its limit; the stand must not be endless."""
        return flow_by_policy(self._scene, self._policy, stand)


def live_leads(market):
    """The ways by live letters alone."""
    leads = market.leads()
    return {stand: {letter: leads[stand][letter] for letter in moment_at(market, stand).live()} for stand in leads}


def leads_into(leads, stand, ring):
    return any([then in ring for then in words_from(leads, stand)])


def way_to(rings, words):
    """The tuple of the first one of these words that leads into a ring, and of this ring; None without one."""
    for stand, word in words.items():
        for ring in rings:
            if stand in ring:
                return word, ring
    return None
