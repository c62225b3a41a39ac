"""Carriedends: threads whose ends are carried along one another."""
