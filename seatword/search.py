"""The search for a dealing, which ends in stands for all that wait or in a paper."""

from seatword.crowds import crowd_in
from seatword.papers import cases_due, does_bar, must_move
from seatword.views import seat_in


class Search:
    """Goes through the views of one sheet, for old stands by their names; keeps the papers of those that are barred."""

    def __init__(self, hall, before):
        self.hall = hall
        self.before = before
        self.papers = {}

    def seek(self, view, spare):
        """("dealt", seats) of those that wait, in any order, or ("barred", paper)."""
        taken, waiting, wrong = view
        if not waiting:
            return ("dealt", ())
        asked = (taken, waiting, spare)
        if asked in self.papers:
            return ("barred", self.papers[asked])
        told = self.seek_anew(view, spare)
        if told[0] == "barred":
            self.papers[asked] = told[1]
        return told

    def seek_anew(self, view, spare):
        paper = self.plain_paper(view, spare)
        if paper is not None:
            return ("barred", paper)
        party, due = self.next_party(view, spare)
        papers = {}
        for stand, bits, left in self.kept_first(party, due):
            told = self.seek(seat_in(view, party, bits), left)
            if told[0] == "dealt":
                return ("dealt", told[1] + ((party[0], stand),))
            # What bars without this seat, too, is a shorter paper of the same.
            if does_bar(self.hall, view, self.before, spare, told[1]):
                return told
            papers[stand] = told[1]
        return ("barred", ("cases", party[0], tuple((stand, papers[stand]) for stand, bits, left in due)))

    def plain_paper(self, view, spare):
        """A paper without cases, or None."""
        paper = crowd_in(self.hall, view)
        if paper is None and spare is not None:
            names = [party[0] for party in view[1] if must_move(self.hall, view, self.before, party)]
            if len(names) > spare:
                paper = ("moves", tuple(sorted(names)))
        return paper

    def next_party(self, view, spare):
        """The party with the fewest cases, and these."""
        best = None
        for party in view[1]:
            due = cases_due(self.hall, view, self.before, spare, party)
            if best is None or len(due) < len(best[1]):
                best = (party, due)
        return best

    def kept_first(self, party, due):
        kept = self.before.get(party[0])
        return [case for case in due if case[0] == kept] + [case for case in due if case[0] != kept]
