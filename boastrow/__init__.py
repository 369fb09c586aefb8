"""Boastrow: people in a row who tell how many behind them speak truly."""
