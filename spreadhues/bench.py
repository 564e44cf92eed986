"""The bench: a picture into which pours are made one by one, with edits and trials."""

from spreadhues.colours import is_whole
from spreadhues.edits import edited
from spreadhues.errors import LongScript, NothingLeft, StillTrial
from spreadhues.running import parting_of, poured, run_script
from spreadhues.scripts import MOST_POURS, check_pour, check_script


class Bench:
    """A picture at the beginning, the log of the pours made, and the picture now."""

    def __init__(self, picture):
        self.first = picture
        self.picture = picture
        self.log = ()
        # the length of the log at the beginning of a trial, None outside of trials
        self.trial_start = None

    def pour_into(self, mark, colour):
        """Make a pour and return the new parting."""
        pour = check_pour(len(self.first.marks), (mark, colour))
        return self._pour_on((pour,))

    def pour_all(self, script):
        """Make all pours of the script, or none, and return the parting behind them."""
        return self._pour_on(check_script(len(self.first.marks), script))

    def _pour_on(self, pours):
        log = self.log + pours
        if len(log) > MOST_POURS:
            raise LongScript(len(log))
        behind = self.picture
        for pour in pours:
            behind = poured(behind, pour)
        self.picture = behind
        self.log = log
        return parting_of(behind)

    def take_back(self, many=1):
        """Undo the last pours, so many, and return them in the order in which they were made."""
        left = len(self.log) - (0 if self.trial_start is None else self.trial_start)
        if not is_whole(many, 1, left):
            raise NothingLeft(many)
        kept = len(self.log) - many
        taken = self.log[kept:]
        self.picture = run_script(self.first, self.log[:kept]).picture
        self.log = self.log[:kept]
        return taken

    def change(self, edits):
        """Do edits to the first picture and to the log, and return the parting behind the new log."""
        self._check_no_trial()
        first, log = edited(self.first, self.log, edits)
        behind = run_script(first, log).picture
        self.first = first
        self.log = log
        self.picture = behind
        return parting_of(behind)

    def _check_no_trial(self):
        if self.trial_start is not None:
            raise StillTrial(len(self.log))

    def trying(self, action):
        """Return what the action returns for the bench; whatever it pours is undone, also if it raises."""
        self._check_no_trial()
        picture = self.picture
        log = self.log
        self.trial_start = len(log)
        try:
            return action(self)
        finally:
            self.picture = picture
            self.log = log
            self.trial_start = None

    def trial_of(self, script):
        """Return the Run of a script of its own on the picture now."""
        return run_script(self.picture, script)
