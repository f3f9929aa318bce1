"""Signalwise: programs of instants, settled sign by sign."""
