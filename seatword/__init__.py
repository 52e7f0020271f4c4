"""Seatword: guests booked at tables."""
