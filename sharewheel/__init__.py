"""Sharewheel: one road for many senders."""
